/- Targets in ascending order: overlaps and gaps: plain mathematics. No Go text. The check of the targets of valid commands. delta.Check and delta.Valid: the one fault of a delta. -/
import Derived.Test.YtgmjppjgbalapaaE09q7
import Derived.BigQuiet
import Derived.Test.YtgmjppjgbalapaaE09q8
import Derived.Test.YtgmjppjgbalapaaE09q9
import Derived.Laws.StructEq
namespace Go.Proofs.Ytgmjppjgbalapaa
open Go.Proofs.Ytgmjppjgbalapaa.Plain01
set_option linter.unusedVariables false

theorem ovL_off : ∀ (l : List (Int × Int)) (e : Int), l.Pairwise (fun p q => p.1 ≤ q.1) → (∀ p ∈ l, 1 ≤ p.2) → (ovL e l = false ↔ (∀ p ∈ l, e ≤ p.1) ∧ l.Pairwise Off) := by
  intro l
  induction l with
  | nil => intro e _ _; simp [ovL]
  | cons x r ih =>
    intro e hs hp
    have hs' := List.pairwise_cons.1 hs
    have hx := hp x List.mem_cons_self
    rw [ovL]
    by_cases h : x.1 < e
    · rw [if_pos h]
      constructor
      · intro h2; cases h2
      · intro h2
        have := h2.1 x List.mem_cons_self
        omega
    · rw [if_neg h, ih _ hs'.2 (fun q hq => hp q (List.mem_cons_of_mem _ hq)), List.pairwise_cons]
      constructor
      · intro ⟨h1, h2⟩
        refine ⟨fun p hpm => ?_, fun q hq => .inl (h1 q hq), h2⟩
        rcases List.mem_cons.1 hpm with rfl | hpm
        · omega
        · have := hs'.1 p hpm; omega
      · intro ⟨h1, h2, h3⟩
        refine ⟨fun q hq => ?_, h3⟩
        have a1 := hs'.1 q hq
        have a2 := hp q (List.mem_cons_of_mem _ hq)
        have a3 := h2 q hq
        unfold Off at a3
        omega

theorem off_perm {l l' : List (Int × Int)} (h : l'.Perm l) : l'.Pairwise Off ↔ l.Pairwise Off := List.Perm.pairwise_iff (fun {a b} h => Off.symm h) h

theorem filter_range (L m : Nat) (h : m ≤ L) : ((List.range L).map (fun i : Nat => (i : Int))).filter (fun z => decide (z < (m : Int))) = (List.range m).map (fun i : Nat => (i : Int)) := by
  rw [List.filter_map]
  congr 1
  obtain ⟨r, rfl⟩ : ∃ r, L = m + r := ⟨L - m, by omega⟩
  rw [List.range_add, List.filter_append, List.filter_eq_self.2 (fun a ha => by have := List.mem_range.1 ha; simp; omega), List.filter_eq_nil_iff.2 (fun a ha => by
    obtain ⟨b, _, rfl⟩ := List.mem_map.1 ha
    simp
    omega), List.append_nil]

theorem take_tgts (cs : List Cmd) (m : Nat) (h : m ≤ cs.length) : ((List.range m).map (fun i : Nat => (i : Int))).map (tgtAt cs) = (cs.take m).map Cmd.tgt := by
  apply List.ext_getElem
  · simp; omega
  · intro i h1 h2
    simp only [List.length_map, List.length_range] at h1
    simp only [List.getElem_map, List.getElem_range, List.getElem_take]
    exact tgtAt_at (List.getElem?_eq_getElem (by omega))

/-- The listed targets are those of the first m commands, in ascending order. -/
theorem sel_perm {cs : List Cmd} {idx : Array Int} (h : IsOrder cs idx) (m : Nat) (hm : m ≤ cs.length) : (selL cs m idx.toList).Perm ((cs.take m).map Cmd.tgt) := by
  rw [← take_tgts cs m hm, ← filter_range cs.length m hm]
  exact (h.perm.filter _).map _
theorem sel_asc {cs : List Cmd} {idx : Array Int} (h : IsOrder cs idx) (m : Int) : (selL cs m idx.toList).Pairwise fun p q => p.1 ≤ q.1 := by
  unfold selL
  rw [List.pairwise_map]
  refine List.Pairwise.filter _ ?_
  rw [List.pairwise_iff_getElem]
  intro i j hi hj hij
  have hi' : i < idx.size := by simpa using hi
  have hj' : j < idx.size := by simpa using hj
  have h1 := h.asc i j (Nat.zero_le _) hij (by rw [← h.size]; exact hj')
  have key : ∀ z : Int, (tgtAt cs z).1 = keyT cs z := fun z => by
    unfold tgtAt keyT
    cases cs[z.toNat]? <;> rfl
  rw [key, key]
  simpa [getElem!_pos idx i hi', getElem!_pos idx j hj'] using h1
theorem sel_bd {cs : List Cmd} {idx : Array Int} (h : IsOrder cs idx) (m : Nat) (hm : m ≤ cs.length) {Q : Int × Int → Prop} (hQ : ∀ c ∈ cs, Q c.tgt) : ∀ p ∈ selL cs m idx.toList, Q p := fun p hp => by
  have := (sel_perm h m hm).mem_iff.1 hp
  obtain ⟨c, hc, rfl⟩ := List.mem_map.1 this
  exact hQ c (List.mem_of_mem_take hc)

theorem ov_take {cs : List Cmd} {idx : Array Int} (h : IsOrder cs idx) (hb : ∀ c ∈ cs, 0 ≤ c.tgt.1 ∧ 1 ≤ c.tgt.2) (m : Nat) (hm : m ≤ cs.length) : ovL 0 (selL cs m idx.toList) = false ↔ ((cs.take m).map Cmd.tgt).Pairwise Off := by
  rw [ovL_off _ _ (sel_asc h m) (sel_bd h m hm fun c hc => (hb c hc).2), off_perm (sel_perm h m hm)]
  exact ⟨fun h => h.2, fun h2 => ⟨sel_bd h m hm fun c hc => (hb c hc).1, h2⟩⟩

theorem pairwise_take {cs : List Cmd} {m : Nat} : ((cs.take m).map Cmd.tgt).Pairwise Off ↔ ∀ i, i < m → ¬ Over cs i := by
  rw [← over_pairwise]
  constructor
  · intro h i hi ⟨j, a, b, hji, ha, hb, hn⟩
    exact h i ⟨j, a, b, hji, by rw [List.getElem?_take, if_pos hi]; exact ha, by rw [List.getElem?_take, if_pos (by omega)]; exact hb, hn⟩
  · intro h i ⟨j, a, b, hji, ha, hb, hn⟩
    by_cases hi : i < m
    · rw [List.getElem?_take, if_pos hi] at ha
      rw [List.getElem?_take, if_pos (by omega)] at hb
      exact h i hi ⟨j, a, b, hji, ha, hb, hn⟩
    · rw [List.getElem?_take, if_neg hi] at ha
      cases ha
/-- What the search asks. -/
def ovP (cs : List Cmd) (idx : Array Int) (i : Nat) : Bool := ovL 0 (selL cs (i + 1 : Nat) idx.toList)
theorem ovP_iff {cs : List Cmd} {idx : Array Int} (h : IsOrder cs idx) (hb : ∀ c ∈ cs, 0 ≤ c.tgt.1 ∧ 1 ≤ c.tgt.2) (i : Nat) (hi : i < cs.length) : ovP cs idx i = false ↔ ∀ j, j ≤ i → ¬ Over cs j := by
  unfold ovP
  rw [ov_take h hb (i + 1) (by omega), pairwise_take]
  exact ⟨fun h j hj => h j (by omega), fun h j hj => h j (by omega)⟩
theorem ovP_mono {cs : List Cmd} {idx : Array Int} (h : IsOrder cs idx) (hb : ∀ c ∈ cs, 0 ≤ c.tgt.1 ∧ 1 ≤ c.tgt.2) (a b : Nat) (hab : a ≤ b) (hbn : b < cs.length) (ha : ovP cs idx a = true) : ovP cs idx b = true := by
  cases hv : ovP cs idx b with
  | true => rfl
  | false =>
    have := (ovP_iff h hb a (by omega)).2 (fun j hj => (ovP_iff h hb b hbn).1 hv j (by omega))
    rw [this] at ha
    cases ha
theorem over_lt {cs : List Cmd} {i : Nat} (h : Over cs i) : i < cs.length := by
  obtain ⟨j, a, b, hji, ha, hb, hn⟩ := h
  exact (List.getElem?_eq_some_iff.1 ha).1

/-- The faults of the targets of valid commands. -/
def TailSpec (n : Int) (cs : List Cmd) (e at_ : Int) : Prop :=
  (∃ i : Nat, Over cs i ∧ (∀ j, j < i → ¬ Over cs j) ∧ e = 4 ∧ at_ = i) ∨
  ((∀ i, ¬ Over cs i) ∧ ∃ g, Gap n (cs.map Cmd.tgt) g ∧ e = 3 ∧ at_ = g) ∨
  ((∀ i, ¬ Over cs i) ∧ (∀ x, 0 ≤ x → x < n → Cov (cs.map Cmd.tgt) x) ∧ e = 0 ∧ at_ = 0)
theorem TailSpec.ref {o n : Int} {cs : List Cmd} {e a : Int} (h : TailSpec n cs e a) (hl : ¬ LensBad o n) (hall : AllOK o n cs) : RefSpec o n cs e a := by
  rcases h with ⟨i, h1, h2, h3, h4⟩ | ⟨h1, g, h2, h3, h4⟩ | ⟨h1, h2, h3, h4⟩
  · exact .inr (.inr (.inl ⟨hl, hall, i, h1, h2, h3, h4⟩))
  · exact .inr (.inr (.inr (.inl ⟨hl, hall, h1, g, h2, h3, h4⟩)))
  · exact .inr (.inr (.inr (.inr ⟨hl, hall, h1, h2, h3, h4⟩)))
theorem first_over {cs : List Cmd} {idx : Array Int} (h : IsOrder cs idx) (hb : ∀ c ∈ cs, 0 ≤ c.tgt.1 ∧ 1 ≤ c.tgt.2) {r : Nat} (hr : r < cs.length) (hno : ∀ t, t < r → ovP cs idx t = false) (hyes : ovP cs idx r = true) (n : Int) : TailSpec n cs 4 r := by
  have h1 : ∀ j, j < r → ¬ Over cs j := fun j hj => (ovP_iff h hb j (by omega)).1 (hno j hj) j (Nat.le_refl _)
  refine .inl ⟨r, Classical.byContradiction fun hn => ?_, h1, rfl, rfl⟩
  have := (ovP_iff h hb r hr).2 (fun j hj => by
    by_cases e : j = r
    · subst e; exact hn
    · exact h1 j (by omega))
  rw [this] at hyes
  cases hyes
theorem none_over {cs : List Cmd} {idx : Array Int} (h : IsOrder cs idx) (hb : ∀ c ∈ cs, 0 ≤ c.tgt.1 ∧ 1 ≤ c.tgt.2) (hno : ∀ t, t < cs.length → ovP cs idx t = false) : ∀ i, ¬ Over cs i := fun i hi => by
  have hlt := over_lt hi
  exact (ovP_iff h hb i hlt).1 (hno i hlt) i (Nat.le_refl _) hi
theorem gap_of {cs : List Cmd} {idx : Array Int} (h : IsOrder cs idx) {n : Int} (hb : ∀ c ∈ cs, 0 ≤ c.tgt.1 ∧ 1 ≤ c.tgt.2 ∧ c.tgt.1 + c.tgt.2 ≤ n) (hno : ∀ i, ¬ Over cs i) :
    (scan 0 (selL cs cs.length idx.toList) < n → TailSpec n cs 3 (scan 0 (selL cs cs.length idx.toList))) ∧ (n ≤ scan 0 (selL cs cs.length idx.toList) → TailSpec n cs 0 0) := by
  have hp := sel_perm h cs.length (Nat.le_refl _)
  rw [List.take_length] at hp
  have ha := sel_asc h cs.length
  have ho : (selL cs cs.length idx.toList).Pairwise Off := (off_perm hp).2 (over_pairwise.1 hno)
  have hq := sel_bd h cs.length (Nat.le_refl _) (Q := fun p => 0 ≤ p.1 ∧ 1 ≤ p.2 ∧ p.1 + p.2 ≤ n) hb
  constructor
  · intro hlt
    have hg := scan_gap ha ho (fun p hpm => ⟨(hq p hpm).1, (hq p hpm).2.1⟩) hlt
    exact .inr (.inl ⟨hno, _, ⟨hg.lo, hg.hi, fun hc => hg.no (hc.perm hp), fun x h0 h1 => (hg.yes x h0 h1).perm hp.symm⟩, rfl, rfl⟩)
  · intro hle
    have ht := (scan_full ha ho hq hle).perm hp.symm
    exact .inr (.inr ⟨hno, ht.cov, rfl, rfl⟩)

/-- There is always one fault. -/
theorem tail_exists (n : Int) (cs : List Cmd) : ∃ e a, TailSpec n cs e a := by
  by_cases h : ∃ i, Over cs i
  · obtain ⟨i, hi⟩ := h
    have key : ∀ k, (∃ i, i ≤ k ∧ Over cs i) → ∃ i, Over cs i ∧ ∀ j, j < i → ¬ Over cs j := by
      intro k
      induction k with
      | zero => intro ⟨i, h1, h2⟩; obtain rfl : i = 0 := by omega
                exact ⟨0, h2, fun j hj => by omega⟩
      | succ k ih =>
        intro ⟨i, h1, h2⟩
        by_cases hk : ∃ i, i ≤ k ∧ Over cs i
        · exact ih hk
        · obtain rfl : i = k + 1 := Classical.byContradiction fun hne => hk ⟨i, by omega, h2⟩
          exact ⟨k + 1, h2, fun j hj hj2 => hk ⟨j, by omega, hj2⟩⟩
    obtain ⟨i, h1, h2⟩ := key i ⟨i, Nat.le_refl _, hi⟩
    exact ⟨4, i, .inl ⟨i, h1, h2, rfl, rfl⟩⟩
  · have h' : ∀ i, ¬ Over cs i := fun i hi => h ⟨i, hi⟩
    by_cases hg : ∃ x, 0 ≤ x ∧ x < n ∧ ¬ Cov (cs.map Cmd.tgt) x
    · obtain ⟨g, hg⟩ := gap_exists hg
      exact ⟨3, g, .inr (.inl ⟨h', g, hg, rfl, rfl⟩)⟩
    · exact ⟨0, 0, .inr (.inr ⟨h', fun x h0 h1 => Classical.byContradiction fun hc => hg ⟨x, h0, h1, hc⟩, rfl, rfl⟩)⟩
theorem first_bad {o n : Int} : ∀ {cs : List Cmd}, ¬ AllOK o n cs → ∃ (i : Nat) (c : Cmd), cs[i]? = some c ∧ single o n c ≠ 0 ∧ ∀ (j : Nat) (c' : Cmd), j < i → cs[j]? = some c' → single o n c' = 0 := by
  intro cs
  induction cs with
  | nil => intro h; exact absurd (fun c hc => by simp at hc) h
  | cons c cs ih =>
    intro h
    by_cases h0 : single o n c = 0
    · obtain ⟨i, c', h1, h2, h3⟩ := ih (fun ha => h fun x hx => by
        rcases List.mem_cons.1 hx with rfl | hx
        · exact h0
        · exact ha x hx)
      refine ⟨i + 1, c', by simpa using h1, h2, fun j d hj hd => ?_⟩
      cases j with
      | zero => simp at hd; subst hd; exact h0
      | succ j => exact h3 j d (by omega) (by simpa using hd)
    · exact ⟨0, c, rfl, h0, fun j _ hj => by omega⟩
theorem ref_exists (o n : Int) (cs : List Cmd) : ∃ q : Int × Int, RefSpec o n cs q.1 q.2 := by
  by_cases hl : LensBad o n
  · exact ⟨(2, -1), .inl ⟨hl, rfl, rfl⟩⟩
  · by_cases ha : AllOK o n cs
    · obtain ⟨e, a, h⟩ := tail_exists n cs
      exact ⟨(e, a), h.ref hl ha⟩
    · obtain ⟨i, c, h1, h2, h3⟩ := first_bad ha
      exact ⟨(single o n c, i), .inr (.inl ⟨hl, i, c, h1, h2, h3, rfl, rfl⟩)⟩
noncomputable def faultOf (o n : Int) (cs : List Cmd) : Int × Int := Classical.choose (ref_exists o n cs)
theorem faultOf_spec (o n : Int) (cs : List Cmd) : RefSpec o n cs (faultOf o n cs).1 (faultOf o n cs).2 := Classical.choose_spec (ref_exists o n cs)
theorem faultOf_eq {o n : Int} {cs : List Cmd} {e a : Int} (h : RefSpec o n cs e a) : faultOf o n cs = (e, a) := by
  obtain ⟨h1, h2⟩ := (faultOf_spec o n cs).unique h
  rw [← h1, ← h2]
end Go.Proofs.Ytgmjppjgbalapaa

namespace Go.Proofs.Ytgmjppjgbalapaa
open Go.RowKit Go.Shelf Go.Proofs.Ytgmjppjgbalapaa.Plain01
set_option linter.unusedVariables false
set_option linter.unusedSimpArgs false

/-- Valid commands and their order. -/
structure Kept (w : World) (g : Nat) (idx : Array Int) (cs : List Cmd) (ca : Option Addr) (ccap : Nat) : Prop where
  g : w.heap[g]? = some (rowI idx)
  c : CmdsIn w ca cs ccap
  small : idx.size ≤ 1000000
  size : idx.size = cs.length
  idx : ∀ i, i < idx.size → ∃ j : Nat, j < cs.length ∧ idx[i]! = (j : Int)
  ok : ∀ c ∈ cs, okE c.tgt = true ∧ (c.k = 1 ∨ c.k = 2)
theorem Kept.below {w w' : World} {g : Nat} {idx : Array Int} {cs : List Cmd} {ca : Option Addr} {ccap : Nat} (h : Kept w g idx cs ca ccap) (hb : Below w.heap.size w w') : Kept w' g idx cs ca ccap :=
  ⟨heap_below h.g hb, h.c.below hb, h.small, h.size, h.idx, h.ok⟩
/-- Behind the call of targets. -/
theorem Kept.caught {w : World} {g : Nat} {idx : Array Int} {cs : List Cmd} {ca : Option Addr} {ccap : Nat} (h : Kept w g idx cs ca ccap) (m : Int) :
    Caught (((w.alloc (boxL ca cs.length ccap)).alloc (.cells #[.slice (some ⟨g, 0, none⟩) cs.length cs.length] 41)).alloc (.cells #[.int .i64 m] 3)) (w.heap.size + 1) (w.heap.size + 1 + 1) w.heap.size g idx cs ca ccap m := by
  have hb : Below w.heap.size w (((w.alloc (boxL ca cs.length ccap)).alloc (.cells #[.slice (some ⟨g, 0, none⟩) cs.length cs.length] 41)).alloc (.cells #[.int .i64 m] 3)) := (((Below.refl _ w).alloc (Nat.le_refl _) _).alloc (by simp) _).alloc (by simp; omega) _
  refine ⟨?_, heap_new _ _ (by simp), heap_old (heap_old (heap_new w _ rfl) _) _, heap_below h.g hb, h.c.below hb, h.small, h.idx, h.ok⟩
  rw [h.size]
  exact heap_old (heap_new _ _ (by simp)) _

abbrev boxS (g N : Nat) : Obj := .cells #[.slice (some ⟨g, 0, none⟩) N N] 41 (0, 0)

set_option maxRecDepth 100000 in
set_option maxHeartbeats 2000000 in
theorem targetsF_any (Bl Bs g : Nat) (idx : Array Int) (cs : List Cmd) (ca : Option Addr) (ccap : Nat) (i : Nat) (w : World) (hl : w.heap[Bl]? = some (boxL ca cs.length ccap)) (hs : w.heap[Bs]? = some (boxS g cs.length)) (h : Kept w g idx cs ca ccap) (hi : i ≤ 1000000) :
    Calls Try.prog 76 #[.int .i64 i, .pointer (some ⟨Bl, 0, none⟩), .pointer (some ⟨Bs, 0, none⟩)] w (Gives (.bool (ovL 0 (selL cs (i + 1 : Nat) idx.toList))) w) := by
  have c0 : w.cell? ⟨Bl, 0, none⟩ = some (.slice ca cs.length ccap) := by rw [cell_of hl]; rfl
  have c1 : w.cell? ⟨Bs, 0, none⟩ = some (.slice (some ⟨g, 0, none⟩) cs.length cs.length) := by rw [cell_of hs]; rfl
  have hc := h.caught ((i + 1 : Nat) : Int)
  have ht := targets_any ca cs.length ccap (some ⟨g, 0, none⟩) cs.length cs.length ((i + 1 : Nat) : Int) w
  obtain ⟨M, hM⟩ : ∃ M : Nat, M = i + 1 := ⟨_, rfl⟩
  have rM : (i : Int) + 1 = (M : Int) := by omega
  have lM : M ≤ 2000000 := by omega
  rw [← hM] at hc ht ⊢
  have hov := overlap_at _ _ _ _ _ _ _ _ _ _ hc
  have hB : Below w.heap.size w (((w.alloc (boxL ca cs.length ccap)).alloc (.cells #[.slice (some ⟨g, 0, none⟩) cs.length cs.length] 41)).alloc (.cells #[.int .i64 M] 3)) := (((Below.refl _ w).alloc (Nat.le_refl _) _).alloc (by simp) _).alloc (by simp; omega) _
  generalize ovL 0 (selL cs (M : Int) idx.toList) = r at hov ⊢
  have HO := Lib.hid hov
  have HB := Lib.hid hB
  clear hl hs h hc hi hM hov hB
  generalize cs.length = L at *
  go_enter Try.func76, Try.ntmps76
  go_wp2_with (go_at_call 78; refine ht.mono ?_; rintro e _ ⟨rfl, rfl⟩)
  have hov := HO.out
  refine hov.mono ?_
  rintro e w' ⟨rfl, hb⟩
  go_wp2
  go_ret
  exact ⟨rfl, HB.out.trans (hb.mono HB.out.size)⟩

/-- What a new box, and the order, are in a region that draws. -/
def IsP (base : Nat) (t : TypeId) (z : Value) : Value → World → Prop := fun v W => ∃ B, v = .pointer (some ⟨B, 0, none⟩) ∧ base ≤ B ∧ W.heap[B]? = some (.cells #[z] t (0, 0))
theorem stable_P (base : Nat) (t : TypeId) (z : Value) : Stable (fun W W' => Below W.heap.size W W') (IsP base t z) := fun v w w' ⟨B, h1, h2, h3⟩ hE => ⟨B, h1, h2, heap_below h3 hE⟩
def IsIdx (base : Nat) (cs : List Cmd) (L : Nat) : Value → World → Prop := fun v W => ∃ g idx, v = .slice (some ⟨g, 0, none⟩) L L ∧ base ≤ g ∧ W.heap[g]? = some (rowI idx) ∧ IsOrder cs idx
theorem stable_Idx (base : Nat) (cs : List Cmd) (L : Nat) : Stable (fun W W' => Below W.heap.size W W') (IsIdx base cs L) := fun v w w' ⟨g, idx, h1, h2, h3, h4⟩ hE => ⟨g, idx, h1, h2, heap_below h3 hE, h4⟩
theorem HeldW.after {w0 w' : World} {bs : List (Nat × Obj)} (s : HeldW w0 bs) (hb : Below s.w.heap.size s.w w') : ∃ s' : HeldW w0 bs, w' = s'.w :=
  ⟨⟨w', s.below.trans (hb.mono s.below.size), fun p hp => heap_below (s.blocks p hp) hb⟩, rfl⟩
theorem CmdsIn.congrL {w : World} {ca : Option Addr} {cs : List Cmd} {ccap : Nat} (h : CmdsIn w ca cs ccap) {L : Nat} (_ : L = cs.length) : CmdsIn w ca cs ccap := h
theorem IsOrder.kept {cs : List Cmd} {idx : Array Int} (h : IsOrder cs idx) {w : World} {g : Nat} {ca : Option Addr} {ccap : Nat} (hg : w.heap[g]? = some (rowI idx)) (hc : CmdsIn w ca cs ccap) (hL : cs.length ≤ 1000000) (hok : ∀ c ∈ cs, okE c.tgt = true ∧ (c.k = 1 ∨ c.k = 2)) : Kept w g idx cs ca ccap :=
  ⟨hg, hc, by rw [h.size]; exact hL, h.size, fun i hi => by
    have hm : idx[i]! ∈ idx.toList := by rw [getElem!_pos idx i hi]; simp
    obtain ⟨j, hj, e⟩ := List.mem_map.1 (h.perm.mem_iff.1 hm)
    exact ⟨j, List.mem_range.1 hj, e.symm⟩, hok⟩

/-- Two boxes are filled. -/
theorem two_filled {w W : World} {B3 B4 g bf bd : Nat} {D : Array Value} {idx : Array Int} {f0 f1 v3 v4 z3 z4 : Value} (hW : Below w.heap.size w W) (h3 : W.heap[B3]? = some (.cells #[z3] 22 (0, 0))) (h4 : W.heap[B4]? = some (.cells #[z4] 41 (0, 0)))
    (hg : W.heap[g]? = some (rowI idx)) (hf : W.heap[bf]? = some (.cells #[f0, f1] 59 (0, 0))) (hd : W.heap[bd]? = some (deltaO D)) (b3 : w.heap.size ≤ B3) (b4 : w.heap.size ≤ B4) (hsz : D.size = 67) :
    ∃ S : HeldW w [(bf, .cells #[f0, f1] 59 (0, 0)), (B3, .cells #[v3] 22 (0, 0)), (B4, .cells #[v4] 41 (0, 0)), (g, rowI idx), (bd, deltaO D)], (W.setCell ⟨B3, 0, none⟩ v3).setCell ⟨B4, 0, none⟩ v4 = S.w := by
  have n34 : B3 ≠ B4 := fun e => by rw [e, h4] at h3; cases h3
  have n3 : ∀ b o, W.heap[b]? = some o → o ≠ Obj.cells #[z3] 22 (0, 0) → b ≠ B3 := fun b o h hn e => by rw [e, h3] at h; exact hn (Option.some.inj h).symm
  have n4 : ∀ b o, W.heap[b]? = some o → o ≠ Obj.cells #[z4] 41 (0, 0) → b ≠ B4 := fun b o h hn e => by rw [e, h4] at h; exact hn (Option.some.inj h).symm
  have keep : ∀ b o, W.heap[b]? = some o → o ≠ Obj.cells #[z3] 22 (0, 0) → o ≠ Obj.cells #[z4] 41 (0, 0) → ((W.setCell ⟨B3, 0, none⟩ v3).setCell ⟨B4, 0, none⟩ v4).heap[b]? = some o := fun b o h x3 x4 =>
    (Below.heap_setCell _ _ _ _ (n4 b o h x4)).trans ((Below.heap_setCell _ _ _ _ (n3 b o h x3)).trans h)
  refine ⟨⟨_, (hW.setCell (p := ⟨B3, 0, none⟩) b3 _).setCell (p := ⟨B4, 0, none⟩) b4 _, fun p hp => ?_⟩, rfl⟩
  simp only [List.mem_cons, List.not_mem_nil, or_false] at hp
  rcases hp with rfl | rfl | rfl | rfl | rfl
  · exact keep _ _ hf (by simp) (by simp)
  · refine (Below.heap_setCell _ _ _ _ n34).trans ?_
    have := heap_setCell_same W B3 0 _ _ v3 h3
    simpa using this
  · have h4' : (W.setCell ⟨B3, 0, none⟩ v3).heap[B4]? = some (.cells #[z4] 41 (0, 0)) := (Below.heap_setCell _ _ _ _ (Ne.symm n34)).trans h4
    have := heap_setCell_same (W.setCell ⟨B3, 0, none⟩ v3) B4 0 _ _ v4 h4'
    simpa using this
  · exact keep _ _ hg (by simp [rowI]) (by simp [rowI])
  · refine keep _ _ hd ?_ ?_ <;> · intro e; simp only [deltaO, Obj.cells.injEq] at e; rw [e.1] at hsz; simp at hsz

/-- A fault, as a value. -/
abbrev faultV (e a : Int) : Value := .agg #[.int .i64 e, .int .i64 a]

set_option maxRecDepth 100000 in
set_option maxHeartbeats 4000000 in
theorem checkTargets_any (D : Array Value) (o n : Int) (x y : List Int) (ca : Option Addr) (cs : List Cmd) (ccap : Nat) (hD : DeltaOf D o n x y (.slice ca cs.length ccap)) (w : World) (h : CmdsIn w ca cs ccap) (hL : cs.length ≤ 1000000) (hall : AllOK o n cs) (hlen : ¬ LensBad o n) :
    Calls Try.prog 60 #[.agg D] w (Gives (faultV (faultOf o n cs).1 (faultOf o n cs).2) w) := by
  have hbd : ∀ c ∈ cs, 0 ≤ c.tgt.1 ∧ 1 ≤ c.tgt.2 ∧ c.tgt.1 + c.tgt.2 ≤ n := fun c hc => (single_ok (hall c hc)).2.1
  have hok : ∀ c ∈ cs, okE c.tgt = true ∧ (c.k = 1 ∨ c.k = 2) := fun c hc => by
    have h1 := hbd c hc
    refine ⟨by rw [okE_iff]; unfold LensBad at hlen; omega, ?_⟩
    rcases chk_ok (single_ok (hall c hc)).1 with ⟨h, _⟩ | ⟨h, _⟩
    · exact .inl h
    · exact .inr h
  have hpost : Hid (∀ (e a : Int) (s' : World), Below w.heap.size w s' → TailSpec n cs e a → Gives (faultV (faultOf o n cs).1 (faultOf o n cs).2) w (.returned (faultV e a)) s') := Lib.hid fun e a s' hb ht => by
    rw [faultOf_eq (ht.ref hlen hall)]
    exact ⟨rfl, hb⟩
  have HD := Lib.hid hD
  have HC := Lib.hid h
  have HK := Lib.hid hok
  have HBD := Lib.hid hbd
  obtain ⟨L, hLe⟩ : ∃ L, L = cs.length := ⟨_, rfl⟩
  have HL := Lib.hid hLe
  have hDs := hD.size
  rw [← hLe] at HD hL
  have HDS := Lib.hid hDs
  generalize Gives (faultV (faultOf o n cs).1 (faultOf o n cs).2) w = POST at *
  clear hD h hok hbd hall hlen hLe hDs
  go_enter Try.func60, Try.ntmps60
  go_wp2_with fail
  have hd1 : ((w.alloc (deltaO D)).alloc (.cells #[.int .i64 0, .int .i64 0] 59)).heap[w.heap.size]? = some (deltaO D) := heap_old (heap_new w _ rfl) _
  have hf1 : ((w.alloc (deltaO D)).alloc (.cells #[.int .i64 0, .int .i64 0] 59)).heap[w.heap.size + 1]? = some (.cells #[.int .i64 0, .int .i64 0] 59 (0, 0)) := heap_new _ _ (by simp)
  have hb1 : Below w.heap.size w ((w.alloc (deltaO D)).alloc (.cells #[.int .i64 0, .int .i64 0] 59)) := below2 _ _ _
  have HD1 := Lib.hid hd1
  have HF1 := Lib.hid hf1
  have HB1 := Lib.hid hb1
  generalize (w.alloc (deltaO D)).alloc (.cells #[.int .i64 0, .int .i64 0] 59) = w1 at HD1 HF1 HB1 ⊢
  clear hd1 hf1 hb1
  have HX := Lib.hid (show ∀ W, Below w1.heap.size w1 W → W.cell? ⟨w.heap.size, 66, none⟩ = some (.slice ca L ccap) from fun W hW => (cell_of (heap_below HD1.out hW) 66).trans HD.out.c66)
  refine wp_region_looseT 7
    [IsV (.pointer (some ⟨w.heap.size, 66, none⟩)), IsV (.slice ca L ccap), IsV (.pointer (some ⟨w.heap.size, 66, none⟩)), IsV (.slice ca L ccap), IsIdx w1.heap.size cs L, IsP w1.heap.size 22 (.slice none 0 0), IsP w1.heap.size 41 (.slice none 0 0)]
    [⟨7, [], [1]⟩, ⟨8, [(0, 7)], []⟩, ⟨9, [], [1]⟩, ⟨10, [(2, 9)], []⟩, ⟨11, [(3, 10)], []⟩, ⟨3, [], []⟩, ⟨4, [], []⟩]
    (fun W => Below w1.heap.size w1 W) (fun W W' => Below W.heap.size W W') (by kernel_rfl) (by kernel_rfl) (by kernel_rfl) rfl rfl (Below.refl _ w1).drew ?_
    ⟨?_, ?_, ?_, ?_, ?_, ?_, ?_, trivial⟩ ?_
  · repeat (first | (intro _ h; cases h; done) | refine List.forall_mem_cons.2 ⟨stable_V _ _, ?_⟩ | refine List.forall_mem_cons.2 ⟨stable_P _ _ _, ?_⟩ | refine List.forall_mem_cons.2 ⟨stable_Idx _ _ _, ?_⟩)
  · intro A W hC hd hx
    have hk : ∀ v, A.eval (.const v) = v := fun _ => rfl
    have hy0 : A.eval (.tmp 1) = .pointer (some ⟨w.heap.size, 0, none⟩) := hx 1 (by simp)
    clear hd
    generalize A.eval = ρ at hk hy0 ⊢
    simp [go_sem, looseUpon, factOf, hk, hy0]
    exact ⟨hC, Below.refl _ _⟩
  · intro A W hC hd hx
    have hk : ∀ v, A.eval (.const v) = v := fun _ => rfl
    have c0 := HX.out W hC
    simp [factOf] at hd
    generalize A.eval = ρ at hd hk ⊢
    simp [go_sem, looseUpon, factOf, hd, hk, c0]
    exact ⟨hC, Below.refl _ _⟩
  · intro A W hC hd hx
    have hk : ∀ v, A.eval (.const v) = v := fun _ => rfl
    have hy0 : A.eval (.tmp 1) = .pointer (some ⟨w.heap.size, 0, none⟩) := hx 1 (by simp)
    clear hd
    generalize A.eval = ρ at hk hy0 ⊢
    simp [go_sem, looseUpon, factOf, hk, hy0]
    exact ⟨hC, Below.refl _ _⟩
  · intro A W hC hd hx
    have hk : ∀ v, A.eval (.const v) = v := fun _ => rfl
    have c0 := HX.out W hC
    simp [factOf] at hd
    generalize A.eval = ρ at hd hk ⊢
    simp [go_sem, looseUpon, factOf, hd, hk, c0]
    exact ⟨hC, Below.refl _ _⟩
  · intro A' W hC hd hx
    refine ⟨fun g hg => (by cases hg), ?_⟩
    simp [factOf] at hd
    refine loose_call rfl Try.func57 (by kernel_rfl) (by kernel_rfl) ?_
    simp only [List.map_toArray, List.map_cons, List.map_nil, hd]
    rw [HL.out]
    refine (order_any ca cs ccap W ((HC.out.below (HB1.out.trans (hC.mono HB1.out.size))).congrL HL.out) (by rw [← HL.out]; exact hL)).mono ?_
    rintro e' W' ⟨g, idx, rfl, hg, hrow, hb, hord⟩
    exact ⟨_, rfl, ⟨g, idx, by first | rfl | rw [HL.out], Nat.le_trans hC.size hg, hrow, hord⟩, hC.trans (hb.mono hC.size), hb⟩
  · intro A' W hC hd hx
    have hk : ∀ v, A'.eval (.const v) = v := fun _ => rfl
    generalize A'.eval = ρ at hk ⊢
    simp [go_sem, looseUpon, factOf, hk]
    exact ⟨⟨_, rfl, hC.size, World.alloc_heap_new _ _⟩, hC.alloc hC.size _, (Below.refl _ _).alloc (Nat.le_refl _) _⟩
  · intro A' W hC hd hx
    have hk : ∀ v, A'.eval (.const v) = v := fun _ => rfl
    generalize A'.eval = ρ at hk ⊢
    simp [go_sem, looseUpon, factOf, hk]
    exact ⟨⟨_, rfl, hC.size, World.alloc_heap_new _ _⟩, hC.alloc hC.size _, (Below.refl _ _).alloc (Nat.le_refl _) _⟩
  · intro W hC
    simp only [ends]
    rintro _ rfl _ rfl _ rfl _ rfl _ ⟨g, idx, rfl, hg, hrow, hord⟩ _ ⟨B3, rfl, hb3, h3⟩ _ ⟨B4, rfl, hb4, h4⟩
    simp only [putAll, List.zip_cons_cons, List.zip_nil_left, List.foldl_cons, List.foldl_nil, Act.put, List.setIfInBounds_toArray, List.set_cons_succ, List.set_cons_zero]
    have h1s := HB1.out.size
    have hbs : Below w.heap.size w W := HB1.out.trans (hC.mono h1s)
    obtain ⟨S, hS⟩ := two_filled (v3 := .slice ca L ccap) (v4 := .slice (some ⟨g, 0, none⟩) L L) hbs h3 h4 hrow (heap_below HF1.out hC) (heap_below HD1.out hC) (by omega) (by omega) HDS.out
    have c3 := cell_of h3 0
    have c4 : ∀ v, (W.setCell ⟨B3, 0, none⟩ v).cell? ⟨B4, 0, none⟩ = some (.slice none 0 0) := fun v => by
      rw [World.cell?_setCell_other _ _ _ _ (by intro e; simp only [Addr.mk.injEq] at e; rw [e.1, h4] at h3; cases h3)]
      exact cell_of h4 0
    have f3 : W.frozen? ⟨B3, 0, none⟩ = false := free_of h3 0
    have f4 : ∀ v, (W.setCell ⟨B3, 0, none⟩ v).frozen? ⟨B4, 0, none⟩ = false := fun v => by rw [World.frozen?_setCell]; exact free_of h4 0
    have e3 : ((W.setCell ⟨B3, 0, none⟩ (.slice ca L ccap)).setCell ⟨B4, 0, none⟩ (.slice (some ⟨g, 0, none⟩) L L)).cell? ⟨B3, 0, none⟩ = some (.slice ca L ccap) := by
      rw [hS]; exact cell_of (S.blocks (B3, .cells #[.slice ca L ccap] 22 (0, 0)) (by simp)) 0
    have HS := Lib.hid hS
    have HORD := Lib.hid hord
    simp at c3
    clear h3 h4 hrow hC hS hord h1s hbs
    go_wp2_with fail
    rw [HS.out]
    clear c3 c4 f3 f4 e3 HS
    have hK : Kept S.w g idx cs ca ccap := HORD.out.kept (S.blocks (g, rowI idx) (by simp)) (HC.out.W S) (by rw [← HL.out]; exact hL) HK.out
    have hB3 : S.w.heap[B3]? = some (boxL ca cs.length ccap) := by rw [← HL.out]; exact S.blocks (B3, .cells #[.slice ca L ccap] 22 (0, 0)) (by simp)
    have hB4 : S.w.heap[B4]? = some (boxS g cs.length) := by rw [← HL.out]; exact S.blocks (B4, .cells #[.slice (some ⟨g, 0, none⟩) L L] 41 (0, 0)) (by simp)
    refine (search_any 76 #[.pointer (some ⟨B3, 0, none⟩), .pointer (some ⟨B4, 0, none⟩)] L (ovP cs idx) S.w (enters_of Try.func76 (by kernel_rfl) rfl) (by omega)
      (fun s' i hi => targetsF_any B3 B4 g idx cs ca ccap i s'.w (heap_below hB3 s'.below) (heap_below hB4 s'.below) (hK.below s'.below) (by omega))
      (fun a b hab hbn => ovP_mono HORD.out (fun c hc => ⟨(HBD.out c hc).1, (HBD.out c hc).2.1⟩) a b hab (by rw [← HL.out]; exact hbn))).mono ?_
    rintro e w2 ⟨r, rfl, hfirst, hb⟩
    obtain ⟨s2, rfl⟩ := S.after hb
    have hK2 := Lib.hid (hK.below hb)
    clear hb hB3 hB4 hK S
    have q3 : s2.w.cell? ⟨B3, 0, none⟩ = some (.slice ca L ccap) := cell_of (s2.blocks (B3, .cells #[.slice ca L ccap] 22 (0, 0)) (by simp)) 0
    have q4 : s2.w.cell? ⟨B4, 0, none⟩ = some (.slice (some ⟨g, 0, none⟩) L L) := cell_of (s2.blocks (B4, .cells #[.slice (some ⟨g, 0, none⟩) L L] 41 (0, 0)) (by simp)) 0
    have hbf := s2.blocks (w.heap.size + 1, .cells #[.int .i64 0, .int .i64 0] 59 (0, 0)) (by simp)
    have p0 := cell_of hbf 0
    have p1 := cell_of hbf 1
    have pf := fun i => free_of hbf i
    have HBF := Lib.hid hbf
    simp at p0 p1 pf
    have HF := Lib.hid hfirst
    have hrn := hfirst.le
    clear hbf hfirst
    by_cases hr : r < L
    · have HT : Hid (TailSpec n cs 4 r) := Lib.hid (first_over HORD.out (fun c hc => ⟨(HBD.out c hc).1, (HBD.out c hc).2.1⟩) (by rw [← HL.out]; exact hr) HF.out.no (HF.out.yes hr) n)
      go_wp2
      refine bodyPost_ret (v := faultV 4 r) (by simp [results, Try.results60, go_sem, p0, p1]) rfl ?_
      exact hpost.out _ _ _ ((s2.below.setCell (p := ⟨w.heap.size + 1, 0, none⟩) (by simp) _).setCell (p := ⟨w.heap.size + 1, 1, none⟩) (by simp) _) HT.out
    · obtain rfl : r = L := by omega
      have hno := none_over HORD.out (fun c hc => ⟨(HBD.out c hc).1, (HBD.out c hc).2.1⟩) (by rw [← HL.out]; exact HF.out.no)
      obtain ⟨g1, g2⟩ := gap_of HORD.out HBD.out hno
      have ht := targets_any ca r ccap (some ⟨g, 0, none⟩) r r (r : Int) s2.w
      have hcg := hK2.out.caught (r : Int)
      have hgp := gap_at _ _ _ _ _ _ _ _ _ _ hcg
      rw [← HL.out] at g1 g2 hgp
      have hB : Below s2.w.heap.size s2.w (((s2.w.alloc (boxL ca r ccap)).alloc (.cells #[.slice (some ⟨g, 0, none⟩) r r] 41)).alloc (.cells #[.int .i64 r] 3)) := (((Below.refl _ _).alloc (Nat.le_refl _) _).alloc (by simp) _).alloc (by simp; omega) _
      obtain ⟨sc, hsc⟩ : ∃ sc, sc = scan 0 (selL cs r idx.toList) := ⟨_, rfl⟩
      rw [← hsc] at g1 g2 hgp
      have HG := Lib.hid hgp
      have HB := Lib.hid hB
      have HG1 := Lib.hid g1
      have HG2 := Lib.hid g2
      clear hno g1 g2 hcg hgp hB hsc hr hrn
      go_wp2_with (go_at_call 78; refine ht.mono ?_; rintro e _ ⟨rfl, rfl⟩)
      refine HG.out.mono ?_
      rintro e w3 ⟨rfl, hb⟩
      obtain ⟨s3, rfl⟩ := s2.after (HB.out.trans (hb.mono HB.out.size))
      clear ht hb HG HB p0 p1 pf q3 q4 HBF hK2
      have hbf := s3.blocks (w.heap.size + 1, .cells #[.int .i64 0, .int .i64 0] 59 (0, 0)) (by simp)
      have p0 := cell_of hbf 0
      have p1 := cell_of hbf 1
      have pf := fun i => free_of hbf i
      obtain ⟨d0, d1, d2⟩ := delta_held HD.out s3 w.heap.size (by simp)
      simp at p0 p1 pf
      clear hbf
      by_cases hlt : sc < n
      · have HT := Lib.hid (HG1.out hlt)
        go_wp2
        refine bodyPost_ret (v := faultV 3 sc) (by simp [results, Try.results60, go_sem, p0, p1]) rfl ?_
        exact hpost.out _ _ _ ((s3.below.setCell (p := ⟨w.heap.size + 1, 0, none⟩) (by simp) _).setCell (p := ⟨w.heap.size + 1, 1, none⟩) (by simp) _) HT.out
      · have HT := Lib.hid (HG2.out (by omega))
        go_wp2
        refine bodyPost_ret (v := faultV 0 0) (by simp [results, Try.results60, go_sem, p0, p1]) rfl ?_
        exact hpost.out _ _ _ ((s3.below.setCell (p := ⟨w.heap.size + 1, 0, none⟩) (by simp) _).setCell (p := ⟨w.heap.size + 1, 1, none⟩) (by simp) _) HT.out
end Go.Proofs.Ytgmjppjgbalapaa

namespace Go.Proofs.Ytgmjppjgbalapaa
open Go.RowKit Go.Shelf Go.Proofs.Ytgmjppjgbalapaa.Plain01
set_option linter.unusedVariables false
set_option linter.unusedSimpArgs false

theorem infoDelta {D : Array Value} {o n : Int} {x y : List Int} {v : Value} (h : DeltaOf D o n x y v) : (Try.prog.info? 34).map (·.size) = some D.size := by rw [h.size]; kernel_rfl

set_option maxRecDepth 100000 in
set_option maxHeartbeats 4000000 in
theorem dcheck_any (D : Array Value) (o n : Int) (x y : List Int) (ca : Option Addr) (cs : List Cmd) (ccap : Nat) (hD : DeltaOf D o n x y (.slice ca cs.length ccap)) (w : World) (h : CmdsIn w ca cs ccap) (hL : cs.length ≤ 1000000) (ho : I64 o) (hn : I64 n) :
    Calls Try.prog 39 #[.agg D] w (Gives (faultV (faultOf o n cs).1 (faultOf o n cs).2) w) := by
  have hpost : Hid (∀ (e a : Int) (s' : World), Below w.heap.size w s' → RefSpec o n cs e a → Gives (faultV (faultOf o n cs).1 (faultOf o n cs).2) w (.returned (faultV e a)) s') := Lib.hid fun e a s' hb ht => by
    rw [faultOf_eq ht]
    exact ⟨rfl, hb⟩
  have HD := Lib.hid hD
  have HC := Lib.hid h
  have hi1 := isLength_any o ho
  have hi2 := isLength_any n hn
  obtain ⟨L, hLe⟩ : ∃ L, L = cs.length := ⟨_, rfl⟩
  have HL := Lib.hid hLe
  have hinf := infoDelta hD
  have HT := Lib.hid (fun (w' : World) (hb : Below w.heap.size w w') (h1 : AllOK o n cs) (h2 : ¬ LensBad o n) => checkTargets_any D o n x y ca cs ccap hD w' (h.below hb) hL h1 h2)
  rw [← hLe] at HD hL
  have hLcap : L ≤ ccap := by rw [hLe]; exact h.len
  have hccap := h.capb
  have HP : Hid (Gives (faultV (faultOf o n cs).1 (faultOf o n cs).2) w = Gives (faultV (faultOf o n cs).1 (faultOf o n cs).2) w) := Lib.hid rfl
  have HTP : Hid (∀ (w' : World) (s : HeldW w [(w.heap.size + 1, .cells #[.int .i64 0, .int .i64 0] 59 (0, 0)), (w.heap.size, deltaO D)]), AllOK o n cs → ¬ LensBad o n → Calls Try.prog 60 #[.agg D] s.w fun e w'' => e = .returned (faultV (faultOf o n cs).1 (faultOf o n cs).2) ∧ ∃ s' : HeldW w [(w.heap.size + 1, .cells #[.int .i64 0, .int .i64 0] 59 (0, 0)), (w.heap.size, deltaO D)], w'' = s'.w) := Lib.hid fun _ s h1 h2 => HeldW.call (HT.out s.w s.below h1 h2)
  have HFS := Lib.hid (faultOf_spec o n cs)
  generalize faultOf o n cs = F at hpost HTP HFS ⊢
  generalize Gives (faultV F.1 F.2) w = POST at hpost ⊢
  clear hD h hLe HP HT
  obtain ⟨S, hS⟩ := start2 w (deltaO D) (.cells #[.int .i64 0, .int .i64 0] 59 (0, 0))
  have HSS := Lib.hid hS
  clear hS
  by_cases h1 : okE (0, o) = true
  · by_cases h2 : okE (0, n) = true
    · have hlen : Hid (¬ LensBad o n) := Lib.hid (by rw [okE_len] at h1 h2; unfold LensBad; omega)
      rw [h1] at hi1
      rw [h2] at hi2
      clear h1 h2 ho hn
      go_enter Try.func39, Try.ntmps39
      have e0 : ((w.alloc (deltaO D)).alloc (.cells #[.int .i64 0, .int .i64 0] 59)).cell? ⟨w.heap.size, 0, none⟩ = some (.int .i64 o) := by rw [HSS.out]; exact (delta_held HD.out S _ (by simp)).1
      go_wp2_with fail
      rw [HSS.out]
      clear e0
      refine (HeldW.call (s := S) (hi1 _)).mono ?_
      rintro e _ ⟨rfl, s1, rfl⟩
      obtain ⟨d0, d1, d2⟩ := delta_in s1 (w.heap.size) D o n x y (.slice ca L ccap) HD.out (by simp)
      go_wp2_with fail
      clear d0 d1 d2
      refine (HeldW.call (s := s1) (hi2 _)).mono ?_
      rintro e _ ⟨rfl, s2, rfl⟩
      obtain ⟨d0, d1, d2⟩ := delta_in s2 (w.heap.size) D o n x y (.slice ca L ccap) HD.out (by simp)
      go_wp2_with fail
      clear d0 d1 d2
      go_loopw [20] (fun v wr => ∃ k : Nat, k ≤ L ∧ v = .int .i64 k ∧ Hid (∀ (j : Nat) (c : Cmd), j < k → cs[j]? = some c → single o n c = 0) ∧ ∃ s : HeldW w [(w.heap.size + 1, .cells #[.int .i64 0, .int .i64 0] 59 (0, 0)), (w.heap.size, deltaO D)], wr = s.w) (fun v _ => L - (intOf v).toNat)
      case atStart => exact ⟨0, by omega, rfl, Lib.hid (fun j c hj => by omega), s2, rfl⟩
      case round =>
        clear s2
        obtain ⟨k, hk, rfl, hf, s, rfl⟩ := hrel
        have hbf := s.blocks (w.heap.size + 1, .cells #[.int .i64 0, .int .i64 0] 59 (0, 0)) (by simp)
        by_cases hlt : k < L
        · obtain ⟨c, hc⟩ : ∃ c, cs[k]? = some c := ⟨_, List.getElem?_eq_getElem (by rw [← HL.out]; exact hlt)⟩
          obtain ⟨b, oo, rfl, x0, x1, x2, x3, x4⟩ := (HC.out.W s).at hc
          have hok := HC.out.ok c (List.mem_of_getElem? hc)
          have hcc := fun w => checkCommand_any D o n x y _ HD.out c ⟨hok.t, hok.f, hok.n, i64_len (a := c.a) hok.b.len hok.b.capb⟩ w
          have hg : (s.w.alloc (cmdO c.k c.t c.f c.n (.slice c.a c.l.length c.cap))).heap[w.heap.size]? = some (deltaO D) := heap_old (s.blocks (w.heap.size, deltaO D) (by simp)) _
          have HBF := Lib.hid hbf
          have HCC := Lib.hid hc
          by_cases h0 : single o n c = 0
          · have hstep : Hid (∀ (j : Nat) (c' : Cmd), j < k + 1 → cs[j]? = some c' → single o n c' = 0) := Lib.hid fun j c' hj hc' => by
              by_cases e : j = k
              · subst e; rw [HCC.out] at hc'; cases hc'; exact h0
              · exact hf.out j c' (by omega) hc'
            rw [h0] at hcc
            clear hbf h0 hok hc
            go_wp2_with (refine wpList_load_row rfl 34 (.tmp 1) rfl w.heap.size rfl 34 _ (0, 0) _ hg Try.underlying34 rfl hinf ?_)
            obtain ⟨B, S2, hB, hB0, hlt2, hS⟩ := s.more1 (cmdO c.k c.t c.f c.n (.slice c.a c.l.length c.cap))
            rw [hS, ← hB]
            clear hS hB hlt2 hg x0 x1 x2 x3 x4
            refine (HeldW.call (s := S2) (hcc _)).mono ?_
            rintro e _ ⟨rfl, s3, rfl⟩
            go_wp2_with fail
            go_roundw
            case rel => exact ⟨k + 1, by omega, by go_num, hstep, s3.sub (fun p hp => List.mem_cons_of_mem _ hp), rfl⟩
            case measure => simp [intOf]; omega
          · have hT : Hid (RefSpec o n cs (single o n c) k) := Lib.hid (.inr (.inl ⟨hlen.out, k, c, HCC.out, h0, hf.out, rfl, rfl⟩))
            generalize single o n c = e0 at *
            have h1 : (e0 != 0) = true := by simpa using h0
            clear hbf h0 hok hc
            go_wp2_with (refine wpList_load_row rfl 34 (.tmp 1) rfl w.heap.size rfl 34 _ (0, 0) _ hg Try.underlying34 rfl hinf ?_)
            obtain ⟨B, S2, hB, hB0, hlt2, hS⟩ := s.more1 (cmdO c.k c.t c.f c.n (.slice c.a c.l.length c.cap))
            rw [hS, ← hB]
            clear hS hB hlt2 hg x0 x1 x2 x3 x4
            refine (HeldW.call (s := S2) (hcc _)).mono ?_
            rintro e _ ⟨rfl, s3, rfl⟩
            have hbf := s3.blocks (w.heap.size + 1, .cells #[.int .i64 0, .int .i64 0] 59 (0, 0)) (by simp)
            have p0 := cell_of hbf 0
            have p1 := cell_of hbf 1
            have pf := fun i => free_of hbf i
            simp at p0 p1 pf
            clear hbf
            go_wp2
            refine bodyPost_ret (v := faultV e0 k) (by simp [results, Try.results39, go_sem, p0, p1]) rfl ?_
            exact hpost.out _ _ _ ((s3.below.setCell (p := ⟨w.heap.size + 1, 0, none⟩) (by simp) _).setCell (p := ⟨w.heap.size + 1, 1, none⟩) (by simp) _) hT.out
        · obtain rfl : k = L := by omega
          have hall : AllOK o n cs := fun c hc => by
            obtain ⟨j, hj⟩ := List.getElem?_of_mem hc
            exact hf.out j c (by rw [HL.out]; exact (List.getElem?_eq_some_iff.1 hj).1) hj
          have hg : s.w.heap[w.heap.size]? = some (deltaO D) := s.blocks (w.heap.size, deltaO D) (by simp)
          have hcall := HTP.out w s hall hlen.out
          clear hall hbf hlt
          go_wp2_with (refine wpList_load_row rfl 34 (.tmp 1) rfl w.heap.size rfl 34 _ (0, 0) _ hg Try.underlying34 rfl hinf ?_)
          refine hcall.mono ?_
          rintro e _ ⟨rfl, s3, rfl⟩
          have hbf := s3.blocks (w.heap.size + 1, .cells #[.int .i64 0, .int .i64 0] 59 (0, 0)) (by simp)
          have p0 := cell_of hbf 0
          have p1 := cell_of hbf 1
          have pf := fun i => free_of hbf i
          simp at p0 p1 pf
          clear hbf hcall hg
          go_wp2
          refine bodyPost_ret (v := faultV F.1 F.2) (by simp [results, Try.results39, go_sem, p0, p1]) rfl ?_
          exact hpost.out _ _ _ ((s3.below.setCell (p := ⟨w.heap.size + 1, 0, none⟩) (by simp) _).setCell (p := ⟨w.heap.size + 1, 1, none⟩) (by simp) _) HFS.out
    · have hl : RefSpec o n cs 2 (-1) := .inl ⟨by rw [okE_len] at h2; unfold LensBad; omega, rfl, rfl⟩
      have HLB := Lib.hid hl
      rw [h1] at hi1
      rw [Bool.not_eq_true] at h2
      rw [h2] at hi2
      clear h1 h2 ho hn hl
      go_enter Try.func39, Try.ntmps39
      have e0 : ((w.alloc (deltaO D)).alloc (.cells #[.int .i64 0, .int .i64 0] 59)).cell? ⟨w.heap.size, 0, none⟩ = some (.int .i64 o) := by rw [HSS.out]; exact (delta_held HD.out S _ (by simp)).1
      go_wp2_with fail
      rw [HSS.out]
      clear e0
      refine (HeldW.call (s := S) (hi1 _)).mono ?_
      rintro e _ ⟨rfl, s1, rfl⟩
      obtain ⟨d0, d1, d2⟩ := delta_in s1 (w.heap.size) D o n x y (.slice ca L ccap) HD.out (by simp)
      go_wp2_with fail
      refine (HeldW.call (s := s1) (hi2 _)).mono ?_
      rintro e _ ⟨rfl, s3, rfl⟩
      have hbf := s3.blocks (w.heap.size + 1, .cells #[.int .i64 0, .int .i64 0] 59 (0, 0)) (by simp)
      have p0 := cell_of hbf 0
      have p1 := cell_of hbf 1
      have pf := fun i => free_of hbf i
      simp at p0 p1 pf
      clear hbf
      go_wp2
      refine bodyPost_ret (v := faultV 2 (-1)) (by simp [results, Try.results39, go_sem, p0, p1]) rfl ?_
      exact hpost.out _ _ _ ((s3.below.setCell (p := ⟨w.heap.size + 1, 0, none⟩) (by simp) _).setCell (p := ⟨w.heap.size + 1, 1, none⟩) (by simp) _) HLB.out
  · have hl : RefSpec o n cs 2 (-1) := .inl ⟨by rw [okE_len] at h1; unfold LensBad; omega, rfl, rfl⟩
    have HLB := Lib.hid hl
    rw [Bool.not_eq_true] at h1
    rw [h1] at hi1
    clear h1 ho hn hl hi2
    go_enter Try.func39, Try.ntmps39
    have e0 : ((w.alloc (deltaO D)).alloc (.cells #[.int .i64 0, .int .i64 0] 59)).cell? ⟨w.heap.size, 0, none⟩ = some (.int .i64 o) := by rw [HSS.out]; exact (delta_held HD.out S _ (by simp)).1
    go_wp2_with fail
    rw [HSS.out]
    clear e0
    refine (HeldW.call (s := S) (hi1 _)).mono ?_
    rintro e _ ⟨rfl, s3, rfl⟩
    have hbf := s3.blocks (w.heap.size + 1, .cells #[.int .i64 0, .int .i64 0] 59 (0, 0)) (by simp)
    have p0 := cell_of hbf 0
    have p1 := cell_of hbf 1
    have pf := fun i => free_of hbf i
    simp at p0 p1 pf
    clear hbf
    go_wp2
    refine bodyPost_ret (v := faultV 2 (-1)) (by simp [results, Try.results39, go_sem, p0, p1]) rfl ?_
    exact hpost.out _ _ _ ((s3.below.setCell (p := ⟨w.heap.size + 1, 0, none⟩) (by simp) _).setCell (p := ⟨w.heap.size + 1, 1, none⟩) (by simp) _) HLB.out

theorem faultOf_zero {o n : Int} {cs : List Cmd} : (faultOf o n cs).1 = 0 ↔ ValidD o n cs := by
  constructor
  · intro h
    have := faultOf_spec o n cs
    rw [h] at this
    exact this.valid.1
  · intro h
    rw [faultOf_eq h.spec]
theorem faultOf_zero2 {o n : Int} {cs : List Cmd} (h : (faultOf o n cs).1 = 0) : faultOf o n cs = (0, 0) := faultOf_eq (faultOf_zero.1 h).spec

set_option maxRecDepth 100000 in
set_option maxHeartbeats 4000000 in
theorem dvalid_any (D : Array Value) (o n : Int) (x y : List Int) (ca : Option Addr) (cs : List Cmd) (ccap : Nat) (hD : DeltaOf D o n x y (.slice ca cs.length ccap)) (w : World) (h : CmdsIn w ca cs ccap) (hL : cs.length ≤ 1000000) (ho : I64 o) (hn : I64 n) :
    Calls Try.prog 17 #[.agg D] w (Gives (.bool (decide ((faultOf o n cs).1 = 0))) w) := by
  obtain ⟨S, hS⟩ := start1 w (deltaO D)
  have hc := dcheck_any D o n x y ca cs ccap hD S.w (h.W S) hL ho hn
  have hinf := infoDelta hD
  have hz : (faultOf o n cs).1 = 0 → (faultOf o n cs).2 = 0 := fun h => by rw [faultOf_zero2 h]
  generalize faultOf o n cs = F at hc hz ⊢
  obtain ⟨e, a⟩ := F
  simp only at hc hz ⊢
  have hg : (w.alloc (deltaO D)).heap[w.heap.size]? = some (deltaO D) := heap_new w _ rfl
  have HS := Lib.hid hS
  clear hD h hL ho hn hS
  by_cases he : e = 0
  · obtain rfl := hz he
    subst he
    clear hz
    go_enter Try.func17, Try.ntmps17
    go_wp2_with (refine wpList_load_row rfl 34 (.tmp 1) rfl w.heap.size rfl 34 _ (0, 0) _ hg Try.underlying34 rfl hinf ?_)
    rw [HS.out]
    clear hg
    refine (HeldW.call hc).mono ?_
    rintro e _ ⟨rfl, s2, rfl⟩
    go_wp2
    go_ret
    exact ⟨by simp, s2.below⟩
  · clear hz
    have e1 : (e == 0) = false := by simpa using he
    go_enter Try.func17, Try.ntmps17
    go_wp2_with (refine wpList_load_row rfl 34 (.tmp 1) rfl w.heap.size rfl 34 _ (0, 0) _ hg Try.underlying34 rfl hinf ?_)
    rw [HS.out]
    clear hg
    refine (HeldW.call hc).mono ?_
    rintro e _ ⟨rfl, s2, rfl⟩
    go_wp2
    go_ret
    exact ⟨by simp [he], s2.below⟩
end Go.Proofs.Ytgmjppjgbalapaa
