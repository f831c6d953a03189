import Derived.Deep.AppendSrc
import Derived.Test.YtfomidjhmdmmcaaE10f5
import Derived.BigQuiet
import Derived.LoopTactic
import Derived.Deep.Upon
import Derived.Test.YtfomidjhmdmmcaaE10f9
/- Bytes are appended to an empty slice without room: a new slice of its own. -/
namespace Go.Proofs.Ytfomidjhmdmmcaa
open Go.RowKit
set_option linter.unusedVariables false

/-- An empty slice without room. -/
def IsE : Value → World → Prop := fun v _ => ∃ p, v = .slice p 0 0
theorem stable_E : Stable (fun W W' => Below W.heap.size W W') IsE := fun v w w' h _ => h

end Go.Proofs.Ytfomidjhmdmmcaa

/- Meet and Covered of the reference of package index. -/
namespace Go.Proofs.Ytfomidjhmdmmcaa
open Go.RowKit Go.Shelf Go.Proofs.Ytfomidjhmdmmcaa.Plain01
set_option linter.unusedVariables false
set_option linter.unusedSimpArgs false

theorem elemI10 : ∃ E : ElemS Try.prog 37 3 1, E.bytes = 8 := by
  have h : (Try.prog.info? 3).map (fun i => (i.zero, i.size, i.bytes)) = some (some (.int .i64 0), 1, 8) := by kernel_rfl
  obtain ⟨i, hi, he⟩ := Option.map_eq_some_iff.1 h
  simp only [Prod.mk.injEq] at he
  exact ⟨⟨i, .int .i64 0, 8, Try.underlying37, hi, he.1, he.2.1, he.2.2, rfl, by omega⟩, rfl⟩
/-- Commands in a row of the call's own. -/
def IsRowI10 (base n : Nat) (xs : List Value) : Value → World → Prop := fun v w => w.ownsRow base 3 1 v n xs
theorem stable_rowI10 (base n : Nat) (xs : List Value) : Stable (fun W W' => Below W.heap.size W W') (IsRowI10 base n xs) := fun v w w' h hE => own_later h hE
/-- A new row without room. -/
def IsE5I10 (base : Nat) : Value → World → Prop := fun v w => ∃ g, v = .slice (some ⟨g, 0, none⟩) 0 0 ∧ w.ownsRow base 3 1 v 0 []
theorem stable_E5I10 (base : Nat) : Stable (fun W W' => Below W.heap.size W W') (IsE5I10 base) := fun v w w' ⟨g, h1, h2⟩ hE => ⟨g, h1, own_later h2 hE⟩
theorem isE5_newI10 {W : World} {base : Nat} (hb : base ≤ W.heap.size) : IsE5I10 base (.slice (some ⟨W.heap.size, 0, none⟩) 0 0) (W.alloc (.cells #[] 3)) :=
  ⟨W.heap.size, rfl, rfl, .inr ⟨W.heap.size, 0, #[], rfl, hb, heap_new W _ rfl, Nat.le_refl _, by unfold maxLen; omega, rfl, rfl⟩⟩

/-- An append to it. -/
theorem run_append_fresh5I10 {W : World} {base : Nat} (hbase : base ≤ W.heap.size) {v : Value} (hv : IsE5I10 base v W) (ad : Addr) (m c : Nat) (news : List Value) (hl : news.length = m * 1) (hnews : ∀ j u, news[j]? = some u → W.cell? (ad.add j) = some u) (h1 : ∀ u ∈ news, u.oneCell' = true) (hm : m ≤ 1000000) (ty : TypeId) :
    ∃ v' W', (Builtin.append_ #[37, 37] ty #[v, .slice (some ad) m c]).run Try.prog W = .ok v' W' ∧ IsRowI10 base m news v' W' ∧ Below W.heap.size W W' := by
  obtain ⟨E, hE⟩ := elemI10
  obtain ⟨g, rfl, ho⟩ := hv
  have hsrc := _root_.Go.Src.ofSlice (P := Try.prog) W (size := E.i.size) (tx := 37) Try.underlying37 ad m c news (by rw [E.hsize, hl]) hnews h1
  by_cases h0 : m = 0
  · subst h0
    obtain rfl := List.eq_nil_of_length_eq_zero (by omega)
    exact ⟨_, _, run_append_nothing (P := Try.prog) W 37 37 ty 3 E.i E.ht E.hi _ 0 0 (Nat.le_refl _) _ hsrc, ho, Below.refl _ _⟩
  · have hold : (Builtin.firstCells E.i.size 0 (.slice (some ⟨g, 0, none⟩) 0 0)).run Try.prog W.drew = .ok ([] : List Value).toArray W.drew :=
      run_firstCells_some W.drew E.i.size 0 ⟨g, 0, none⟩ 0 0 [] (by simp) (fun j v hj => by simp at hj)
    have hrun := run_append_grow_src (P := Try.prog) W 37 37 ty 3 E.i E.z E.ht E.hi E.hz (some ⟨g, 0, none⟩) 0 0 [] hold _ m _ hsrc (by omega) (by omega) (growslice_fits (by omega) (by rw [E.hby, hE]; omega))
    rw [Nat.zero_add] at hrun
    have hG := grownCap_ge W m 0 3
    have hG2 := grownCap_le_maxLen W m 0 3 (by unfold maxLen; omega)
    generalize grownCap W m 0 3 = G at hrun hG hG2
    refine ⟨_, _, hrun, ⟨hl, .inr ⟨W.heap.size, G, _, rfl, hbase, heap_alloc_new W.drew _, hG, hG2, ?_, ?_⟩⟩, (Below.refl _ W).drew.alloc (Nat.le_refl _) _⟩
    · simp only [List.nil_append, Array.size_append, List.size_toArray, size_zeroCells, E.hzs, hl]
      omega
    · simp only [List.nil_append, Array.toList_append]
      rw [← hl]
      exact List.take_left


theorem size_int10 (w : World) : (sizeOf (Try.prog.elem 37)).run Try.prog w = .ok 1 w := by kernel_rfl

/-- Rows with those cells keep them. -/
def ExtRI10 (base at_ : Nat) (X Y : List Value) (W W' : World) : Prop := ∀ v n xs, (n = 0 ∧ xs = [] ∨ n = at_ ∧ xs = X ∨ n = 1 ∧ xs = Y ∨ n = at_ + 1 ∧ xs = X ++ Y) → W.ownsRow base 3 1 v n xs → W'.ownsRow base 3 1 v n xs
theorem extR_belowI10 {base at_ : Nat} {X Y : List Value} {W W' : World} (h : Below W.heap.size W W') : ExtRI10 base at_ X Y W W' := fun v n xs _ ho => own_later ho h

theorem append_extI10 {W0 W : World} (hC : Below W0.heap.size W0 W) {at_ : Nat} {X Y : List Value} {v : Value} (hv : W.ownsRow W0.heap.size 3 1 v at_ X) (ad : Addr) (c : Nat) (hY : Y.length = 1 * 1) (hnews : ∀ j u, Y[j]? = some u → W.cell? (ad.add j) = some u) (h1 : ∀ u ∈ Y, u.oneCell' = true) (hm : at_ ≤ 1000000) (ty : TypeId) :
    ∃ v' W', (Builtin.append_ #[37, 37] ty #[v, .slice (some ad) 1 c]).run Try.prog W = .ok v' W' ∧ W'.ownsRow W0.heap.size 3 1 v' (at_ + 1) (X ++ Y) ∧ Below W0.heap.size W0 W' ∧ ExtRI10 W0.heap.size at_ X Y W W' := by
  obtain ⟨E, hE⟩ := elemI10
  obtain ⟨v', W', hrun, ho, hg, _⟩ := run_append_own (P := Try.prog) W W0.heap.size 37 ty 3 E.i E.z 1 E.bytes E.ht E.hi E.hz E.hsize E.hby E.hzs E.hsz v at_ X hv ad 1 c Y hY hnews h1 (by unfold maxLen; omega) (by rw [hE]; omega) hC.size
  refine ⟨v', W', hrun, ho, hC.grown hg hC.size (fun k hk => (hv.lt k hk).1), ?_⟩
  rcases hv.2 with ⟨rfl, h0⟩ | ⟨g, cap, cur, rfl, hbg, hgc, hnc, hcm, hcs, htake⟩
  · exact extR_belowI10 ((Below.refl _ W).grown hg (Nat.le_refl _) (fun k hk => by cases hk))
  · by_cases hroom : at_ + 1 ≤ cap
    · have hl1 : Y.length = 1 * E.i.size := by rw [E.hsize, hY]
      have hr := run_append_room (P := Try.prog) W 37 ty 3 E.i E.ht E.hi g at_ cap cur hgc ad 1 c Y hl1 hnews h1 hroom (by rw [hl1, hcs, E.hsize, ← Nat.add_mul]; exact Nat.mul_le_mul_right _ hroom)
      rw [hr] at hrun
      injection hrun with h2 h3
      subst h3
      rw [E.hsize]
      intro u n xs hn hu
      refine ⟨hu.1, ?_⟩
      rcases hu.2 with h | ⟨g2, cap2, cur2, e1, e2, e3, e4, e5, e6, e7⟩
      · exact .inl h
      · right
        by_cases hgg : g2 = g
        · subst hgg
          obtain ⟨rfl, _⟩ : cur2 = cur ∧ True := by
            rw [hgc] at e3
            simp only [Option.some.injEq, Obj.cells.injEq] at e3
            exact ⟨e3.1.symm, trivial⟩
          have hxl : X.length = at_ * 1 := hv.1
          have hcl : cur2.toList.length = cap2 * 1 := by simpa using e6
          have hcc : cap2 = cap := by omega
          refine ⟨g2, cap2, _, e1, e2, setRow_heap _ _ _ _ _ _ e3, e4, e5, ?_, ?_⟩
          · simp only [List.size_toArray, List.length_append, List.length_take, List.length_drop, hY, hcl]
            omega
          · simp only [htake]
            rcases hn with ⟨rfl, rfl⟩ | ⟨rfl, rfl⟩ | ⟨rfl, rfl⟩ | ⟨rfl, rfl⟩
            · simp
            · rw [List.append_assoc, ← hxl, List.take_left]
            · by_cases ha : at_ = 0
              · subst ha
                have : X = [] := List.eq_nil_of_length_eq_zero (by omega)
                subst this
                rw [List.nil_append, ← hY, List.take_left]
              · rw [List.append_assoc, List.take_append_of_le_length (by omega), ← htake, List.take_take, Nat.min_eq_left (by omega)]
                exact e7
            · have : (at_ + 1) * 1 = (X ++ Y).length := by rw [List.length_append, hxl, hY]; omega
              rw [this, List.take_left]
        · exact ⟨g2, cap2, cur2, e1, e2, (setRow_other _ _ _ _ hgg).trans e3, e4, e5, e6, e7⟩
    · refine extR_belowI10 ?_
      have hl1 : Y.length = 1 * E.i.size := by rw [E.hsize, hY]
      have hr := run_append_grow (P := Try.prog) W 37 ty 3 E.i E.z E.ht E.hi E.hz ⟨g, 0, none⟩ at_ cap X (by rw [E.hsize]; exact hv.1) (hv.cells (g := g) rfl) ad 1 c Y hl1 hnews (by omega) (by omega) (growslice_fits (by omega) (by rw [E.hby, hE]; omega))
      rw [hr] at hrun
      injection hrun with h2 h3
      subst h3
      exact (Below.refl _ W).drew.alloc (Nat.le_refl _) _

/-- The same of a slice that may be nil. -/
theorem run_append_freshOI10 {W : World} {base : Nat} (hbase : base ≤ W.heap.size) {v : Value} (hv : IsE5I10 base v W) (sp : Option Addr) (m c : Nat) (news : List Value) (hl : news.length = m * 1) (hnil : sp = none → m = 0) (hnews : ∀ ad, sp = some ad → ∀ j u, news[j]? = some u → W.cell? (ad.add j) = some u) (h1 : ∀ u ∈ news, u.oneCell' = true) (hm : m ≤ 1000000) (ty : TypeId) :
    ∃ v' W', (Builtin.append_ #[37, 37] ty #[v, .slice sp m c]).run Try.prog W = .ok v' W' ∧ IsRowI10 base m news v' W' ∧ Below W.heap.size W W' := by
  cases sp with
  | some ad => exact run_append_fresh5I10 hbase hv ad m c news hl (hnews ad rfl) h1 hm ty
  | none =>
    obtain ⟨E, hE⟩ := elemI10
    obtain ⟨g, rfl, ho⟩ := hv
    have hm0 := hnil rfl
    subst hm0
    obtain rfl := List.eq_nil_of_length_eq_zero (by omega)
    exact ⟨_, _, run_append_nothing (P := Try.prog) W 37 37 ty 3 E.i E.ht E.hi _ 0 0 (Nat.le_refl _) _ (_root_.Go.Src.ofNil (P := Try.prog) (w := W) (size := E.i.size) Try.underlying37 c), ho, Below.refl _ _⟩
theorem cutO_hI10 {a : Option Addr} {L cap : Nat} (n : Nat) (hn : n ≤ L) (hc : L ≤ cap) (hnil : a = none → cap = 0) : ∃ A, (∀ W, (Instr.slice 37 (.slice a L cap) none (some (.int .i64 (n : Int))) none).run Try.prog W = .ok (.slice A n cap) W) ∧ (A = none → n = 0 ∧ cap = 0) ∧ ∀ b o, a = some ⟨b, o, none⟩ → A = some ⟨b, o, none⟩ := by
  refine ⟨if cap = 0 then a else a.map (·.add (0 * 1)), fun W => ?_, fun h => ?_, fun b o h => ?_⟩
  · rw [run_slice_h (P := Try.prog) W 37 a L cap (by kernel_rfl) .i64 (n : Int) (by omega) (by omega), size_int10]
    simp only [Result.andThen_ok, sliced, Int.toNat_natCast, Nat.sub_zero]
  · by_cases h0 : cap = 0
    · omega
    · rw [if_neg h0] at h
      cases a with
      | none => have := hnil rfl; omega
      | some ad => cases h
  · subst h
    split <;> simp [Addr.add_mid]
theorem cutO_lI10 {a : Option Addr} {L cap : Nat} (n : Nat) (hn : n ≤ L) (hc : L ≤ cap) (hnil : a = none → cap = 0) : ∃ A, (∀ W, (Instr.slice 37 (.slice a L cap) (some (.int .i64 (n : Int))) none none).run Try.prog W = .ok (.slice A (L - n) (cap - n)) W) ∧ (A = none → L - n = 0 ∧ cap - n = 0) ∧ ∀ b o, a = some ⟨b, o, none⟩ → n < L → A = some ⟨b, o + n * 1, none⟩ := by
  refine ⟨if cap = n then a else a.map (·.add (n * 1)), fun W => ?_, fun h => ?_, fun b o h hl => ?_⟩
  · rw [run_slice_l (P := Try.prog) W 37 a L cap (by kernel_rfl) .i64 (n : Int) (by omega) (by omega), size_int10]
    simp only [Result.andThen_ok, sliced, Int.toNat_natCast]
  · by_cases h0 : cap = n
    · omega
    · rw [if_neg h0] at h
      cases a with
      | none => have := hnil rfl; omega
      | some ad => cases h
  · subst h
    rw [if_neg (by omega)]
    simp [Addr.add_mid]

/-- A literal of one number, as a row. -/
def IsLitI10 (base i : Nat) : Value → World → Prop := fun v w => ∃ B, v = .slice (some ⟨B, 0, none⟩) 1 1 ∧ w.ownsRow base 3 1 v 1 [.int .i64 i]
theorem isLitI10_new {W : World} {base : Nat} (hb : base ≤ W.heap.size) (i : Nat) : IsLitI10 base i (.slice (some ⟨W.heap.size, 0, none⟩) 1 1) (W.alloc (.cells #[.int .i64 i] 3)) :=
  ⟨W.heap.size, rfl, rfl, .inr ⟨W.heap.size, 1, _, rfl, hb, heap_new W _ rfl, Nat.le_refl _, by unfold maxLen; omega, rfl, rfl⟩⟩
theorem stable_EI10x (base j : Nat) (X Y : List Value) : Stable (ExtRI10 base j X Y) (IsE5I10 base) := fun v w w' ⟨g, h1, h2⟩ hE => ⟨g, h1, hE _ 0 [] (.inl ⟨rfl, rfl⟩) h2⟩
theorem stable_rowI10x (base j : Nat) (X Y : List Value) : Stable (ExtRI10 base j X Y) (IsRowI10 base j X) := fun v w w' h hE => hE _ _ _ (.inr (.inl ⟨rfl, rfl⟩)) h
theorem stable_rowI10y (base j : Nat) (X Y : List Value) : Stable (ExtRI10 base j X Y) (IsRowI10 base (j + 1) (X ++ Y)) := fun v w w' h hE => hE _ _ _ (.inr (.inr (.inr ⟨rfl, rfl⟩))) h
theorem stable_litI10 (base j i : Nat) (X : List Value) : Stable (ExtRI10 base j X [.int .i64 i]) (IsLitI10 base i) := fun v w w' ⟨B, h1, h2⟩ hE => ⟨B, h1, hE _ _ _ (.inr (.inr (.inl ⟨rfl, rfl⟩))) h2⟩
theorem intC_one (l : List Nat) : ∀ u ∈ intC l, u.oneCell' = true := fun u hu => by
  unfold intC at hu
  obtain ⟨i, _, rfl⟩ := List.mem_map.1 hu
  rfl
theorem intC_length (l : List Nat) : (intC l).length = l.length := by unfold intC; rw [List.length_map]
theorem intC_append (l m : List Nat) : intC (l ++ m) = intC l ++ intC m := by unfold intC; rw [List.map_append]
/-- A slice of ints with its room. -/
structure IntsW (w : World) (a : Option Addr) (l : List Nat) (cap : Nat) : Prop where
  ints : IntsIn w a l
  len : l.length ≤ cap
  capb : cap ≤ 9223372036854775807
  nil : a = none → cap = 0
theorem IntsW.below {w w' : World} {a : Option Addr} {l : List Nat} {cap : Nat} (h : IntsW w a l cap) (hb : Below w.heap.size w w') : IntsW w' a l cap := ⟨h.ints.below hb, h.len, h.capb, h.nil⟩
theorem ints_row2 {W : World} {base : Nat} {v : Value} {l : List Nat} (h : W.ownsRow base 3 1 v l.length (intC l)) : ∃ a cap, v = .slice a l.length cap ∧ IntsW W a l cap := by
  obtain ⟨a, cap, hv, hI⟩ := ints_row h
  refine ⟨a, cap, hv, hI, ?_, ?_, ?_⟩
  · rcases h.2 with ⟨h1, h0⟩ | ⟨g, cap', cur, h1, _, _, hc1, _⟩
    · omega
    · rw [hv] at h1; injection h1 with _ _ h4; omega
  · rcases h.2 with ⟨h1, h0⟩ | ⟨g, cap', cur, h1, _, _, _, hc2, _⟩
    · rw [hv] at h1; injection h1 with _ _ h4; omega
    · rw [hv] at h1; injection h1 with _ _ h4; unfold maxLen at hc2; omega
  · intro ha
    rcases h.2 with ⟨h1, h0⟩ | ⟨g, cap', cur, h1, _⟩
    · rw [hv] at h1; injection h1 with _ _ h4
    · rw [hv, ha] at h1; injection h1 with h4; cases h4
theorem ints_news_h {W : World} {a : Option Addr} {cap : Nat} {l : List Nat} (h : IntsW W a l cap) {A : Option Addr} {n : Nat} (hA : ∀ b o, a = some ⟨b, o, none⟩ → A = some ⟨b, o, none⟩) : ∀ ad, A = some ad → ∀ (j : Nat) (u : Value), (intC (l.take n))[j]? = some u → W.cell? (ad.add j) = some u := fun ad had j u hu => by
  unfold intC at hu
  rw [List.getElem?_map] at hu
  obtain ⟨x, hx, rfl⟩ := Option.map_eq_some_iff.1 hu
  rw [List.getElem?_take] at hx
  split at hx
  · obtain ⟨b, o, ha, hc⟩ := h.ints (by have := (List.getElem?_eq_some_iff.1 hx).1; omega)
    have := hA b o ha
    rw [had] at this
    cases this
    rw [Addr.add_mid]
    exact hc j x hx
  · cases hx
theorem ints_news_l {W : World} {a : Option Addr} {cap : Nat} {l : List Nat} (h : IntsW W a l cap) {A : Option Addr} {n : Nat} (hA : ∀ b o, a = some ⟨b, o, none⟩ → n < l.length → A = some ⟨b, o + n * 1, none⟩) : ∀ ad, A = some ad → ∀ (j : Nat) (u : Value), (intC (l.drop n))[j]? = some u → W.cell? (ad.add j) = some u := fun ad had j u hu => by
  unfold intC at hu
  rw [List.getElem?_map] at hu
  obtain ⟨x, hx, rfl⟩ := Option.map_eq_some_iff.1 hu
  rw [List.getElem?_drop] at hx
  have hl := (List.getElem?_eq_some_iff.1 hx).1
  obtain ⟨b, o, ha, hc⟩ := h.ints (by omega)
  have := hA b o ha (by omega)
  rw [had] at this
  cases this
  rw [Addr.add_mid]
  have h2 := hc (n + j) x hx
  rw [show o + n * 1 + j = o + (n + j) by omega]
  exact h2
/-- An insertion. -/
theorem ins10_asc (key : Nat → Int) {out : List Nat} {x j : Nat} (ha : out.Pairwise fun a b => key a ≤ key b) (hj : j ≤ out.length) (h1 : ∀ i c, j ≤ i → out[i]? = some c → key x < key c) (h2 : j = 0 ∨ ∃ c, out[j - 1]? = some c ∧ key c ≤ key x) : (out.take j ++ x :: out.drop j).Pairwise (fun a b => key a ≤ key b) ∧ (out.take j ++ x :: out.drop j).Perm (x :: out) := by
  have hlo : ∀ a ∈ out.take j, key a ≤ key x := fun a hm => by
    obtain ⟨i, hi⟩ := List.getElem?_of_mem hm
    rw [List.getElem?_take] at hi
    split at hi
    · rename_i hij
      rcases h2 with h0 | ⟨c, hc, hcx⟩
      · omega
      · by_cases e : i = j - 1
        · subst e; rw [hi] at hc; cases hc; exact hcx
        · obtain ⟨q1, q2⟩ := List.getElem?_eq_some_iff.1 hi
          obtain ⟨q3, q4⟩ := List.getElem?_eq_some_iff.1 hc
          have := (List.pairwise_iff_getElem.1 ha) i (j - 1) q1 q3 (by omega)
          rw [q2, q4] at this
          omega
    · cases hi
  have hhi : ∀ b ∈ out.drop j, key x ≤ key b := fun b hm => by
    obtain ⟨i, hi⟩ := List.getElem?_of_mem hm
    rw [List.getElem?_drop] at hi
    exact Int.le_of_lt (h1 _ _ (by omega) hi)
  constructor
  · rw [List.pairwise_append]
    refine ⟨ha.sublist (List.take_sublist _ _), ?_, fun a hm b hb => ?_⟩
    · rw [List.pairwise_cons]
      exact ⟨hhi, ha.sublist (List.drop_sublist _ _)⟩
    · have := hlo a hm
      rcases List.mem_cons.1 hb with rfl | hb
      · exact this
      · have := hhi b hb; omega
  · refine List.perm_middle.trans ?_
    rw [List.take_append_drop]
/-- What the reference has listed behind k extents. -/
structure RMeet10 (es : List (Int × Int)) (e : Int × Int) (k : Nat) (out : List Nat) : Prop where
  perm : out.Perm ((List.range k).filter fun i => ovlB (at10 es i) e)
  asc : out.Pairwise fun a b => (at10 es a).1 ≤ (at10 es b).1
theorem RMeet10.lt {es : List (Int × Int)} {e : Int × Int} {k : Nat} {out : List Nat} (h : RMeet10 es e k out) : ∀ i ∈ out, i < k := fun i hi => by
  have := (h.perm.mem_iff.1 hi)
  exact List.mem_range.1 (List.mem_filter.1 this).1
theorem RMeet10.length {es : List (Int × Int)} {e : Int × Int} {k : Nat} {out : List Nat} (h : RMeet10 es e k out) : out.length ≤ k := by
  rw [h.perm.length_eq]
  exact Nat.le_trans (List.length_filter_le _ _) (by simp)
theorem RMeet10.skip {es : List (Int × Int)} {e : Int × Int} {k : Nat} {out : List Nat} (h : RMeet10 es e k out) (ho : ovlB (at10 es k) e = false) : RMeet10 es e (k + 1) out := ⟨by
  rw [List.range_succ, List.filter_append]
  simp [ho]
  exact h.perm, h.asc⟩
theorem RMeet10.next {es : List (Int × Int)} {e : Int × Int} {k j : Nat} {out : List Nat} (h : RMeet10 es e k out) (ho : ovlB (at10 es k) e = true) (hj : j ≤ out.length) (h1 : ∀ i c, j ≤ i → out[i]? = some c → (at10 es k).1 < (at10 es c).1) (h2 : j = 0 ∨ ∃ c, out[j - 1]? = some c ∧ (at10 es c).1 ≤ (at10 es k).1) : RMeet10 es e (k + 1) (out.take j ++ k :: out.drop j) := by
  obtain ⟨q1, q2⟩ := ins10_asc (fun i => (at10 es i).1) h.asc hj h1 h2
  refine ⟨?_, q1⟩
  rw [List.range_succ, List.filter_append]
  simp only [List.filter_cons, ho, if_true, List.filter_nil]
  exact q2.trans ((h.perm.cons k).trans (List.perm_append_singleton _ _).symm)
theorem RMeet10.eq {es : List (Int × Int)} (hR : Right10 es) {e : Int × Int} {out : List Nat} (h : RMeet10 es e es.length out) : out = meet10 es e := by
  have hinj : ∀ {i j : Nat}, i < es.length → j < es.length → (at10 es i).1 = (at10 es j).1 → i = j := fun {i j} hi hj he => by
    have q1 := right_at hR hi
    have q2 := right_at hR hj
    exact find10_one hR hi hj (off := (at10 es i).1) ⟨by omega, by omega⟩ ⟨by omega, by omega⟩
  have hnd : out.Nodup := h.perm.nodup_iff.2 ((List.nodup_range).filter _)
  have hs : out.Pairwise fun a b => (at10 es a).1 < (at10 es b).1 := by
    refine (h.asc.and hnd).imp_of_mem (fun {a b} ha hb hab => ?_)
    have := hab.1
    by_cases e : (at10 es a).1 = (at10 es b).1
    · exact absurd (hinj (h.lt a ha) (h.lt b hb) e) hab.2
    · omega
  refine strict_unique (fun i => (at10 es i).1) ?_ hs ?_
  · exact h.perm.trans (((ord10_perm es).filter _).symm)
  · exact (asc_sep hR (ord10_perm es) (ord10_asc es)).2.sublist List.filter_sublist
end Go.Proofs.Ytfomidjhmdmmcaa
