import Derived.Test.YtgmjppjgbalapaaE09q19
import Derived.Test.YtgmjppjgbalapaaE09q18
import Derived.RangeFuncBox
import Derived.RangeFuncLeaves
import Derived.RangeFuncNested
import Derived.RangeFuncWrites
import Derived.Shelf.Abstract
import Derived.WalkKit
import Derived.OwnWalk
import Derived.OwnWalkIn
import Derived.TacticsInMore
import Derived.LoopNIn
import Derived.LoopIn
import Derived.Maps.AppendAt
import Derived.Test.YtgmjppjgbalapaaE09q7
import Derived.Test.YtgmjppjgbalapaaE09q9
import Derived.BigQuiet
import Derived.Test.YtgmjppjgbalapaaE09q13
import Derived.LoopTactic
import Derived.Deep.QuietTactic
import Derived.Great.BuildSlice
import Derived.Test.YtgmjppjgbalapaaE09q2
import Derived.Test.YtgmjppjgbalapaaE09q1
import Derived.Test.YtgmjppjgbalapaaE09q11
/- Bytes and pairs of numbers as keys. -/
namespace Go.Proofs.Ytgmjppjgbalapaa
open Go.RowKit
set_option linter.unusedVariables false
set_option linter.unusedSimpArgs false

abbrev k8 (x : Int) : Value := .int .u8 x
abbrev k2 (p : Int × Int) : Value := .agg #[.int .i64 p.1, .int .i64 p.2]
theorem find8 : ∀ (es : List (Int × Int × Nat)) (x : Int) (i : Nat), Instr.findNow (.int .u8) (k8 x) (es.map (entE k8)) i = some ((lookE es x i).map fun p => (p.1, .int .i64 p.2)) := by
  intro es
  induction es with
  | nil => intro x i; rfl
  | cons e es ih =>
    intro x i
    simp only [List.map_cons, Instr.findNow, entE, Instr.sameNow, lookE, if_true]
    by_cases h : e.1 = x
    · rw [h, if_pos rfl]
      simp
    · have h2 : (x == e.1) = false := by simpa using Ne.symm h
      rw [if_neg h, h2]
      exact ih x (i + 1)
theorem chk8 (n : Nat) (b : Bool) (w : World) (x : Int) : (Instr.checkKey b (n + 1) 5 (k8 x)).run Try.prog w = .ok () w := by
  simp [Instr.checkKey, run_underlying Try.underlying5]
theorem part2 (w : World) (x y : Int) (i : Nat) (v : Int) (hv : (#[.int .i64 x, .int .i64 y] : Array Value)[i]? = some (.int .i64 v)) : (part 3 #[.int .i64 x, .int .i64 y] i).run Try.prog w = .ok (.int .i64 v) w := by
  have hag : (isAgg 3).run Try.prog w = .ok false w := by kernel_rfl
  unfold part
  simp only [Sem.run_bind, hag, Result.andThen_ok, hv]
  simp
end Go.Proofs.Ytgmjppjgbalapaa

/- Rows of numbers, rows of pairs; lookUp of package patch. -/
namespace Go.Proofs.Ytgmjppjgbalapaa
open Go.RowKit
set_option linter.unusedVariables false
set_option linter.unusedSimpArgs false

/-- A new row of numbers. -/
def RowPost (xs : List Int) (w : World) (e : Ending) (w' : World) : Prop :=
  ∃ g, e = .returned (.slice (some ⟨g, 0, none⟩) xs.length xs.length) ∧ w.heap.size ≤ g ∧ w'.heap[g]? = some (rowI xs.toArray) ∧ Below w.heap.size w w'
/-- A slice of numbers. -/
structure IntsIn (w : World) (a : Option Addr) (l : List Int) (cap : Nat) : Prop where
  len : l.length ≤ cap
  capb : cap ≤ 9223372036854775807
  cells : 0 < l.length → ∃ b o, a = some ⟨b, o, none⟩ ∧ ∀ i, i < l.length → w.cell? ⟨b, o + i, none⟩ = some (.int .i64 (l[i]?.getD 0))
theorem IntsIn.below {w w' : World} {a : Option Addr} {l : List Int} {cap : Nat} (h : IntsIn w a l cap) (hb : Below w.heap.size w w') : IntsIn w' a l cap :=
  ⟨h.len, h.capb, fun hp => by
    obtain ⟨b, o, e, hc⟩ := h.cells hp
    exact ⟨b, o, e, fun i hi => (hb.cell (p := ⟨b, o + i, none⟩) (World.block_lt_of_cell? _ _ (hc i hi))).trans (hc i hi)⟩⟩
theorem ints_row {w : World} {g : Nat} {xs : List Int} (h : w.heap[g]? = some (rowI xs.toArray)) (hl : xs.length ≤ 1000000) : IntsIn w (some ⟨g, 0, none⟩) xs xs.length :=
  ⟨Nat.le_refl _, by omega, fun _ => ⟨g, 0, rfl, fun i hi => by
    rw [Nat.zero_add, cell_of h]
    simp [hi]⟩⟩
theorem ints_nil (w : World) : IntsIn w none [] 0 := ⟨Nat.le_refl _, by omega, fun h => by simp at h⟩
/-- A slice of pairs. -/
structure PairsIn (w : World) (a : Option Addr) (l : List (Int × Int)) (cap : Nat) : Prop where
  len : l.length ≤ cap
  capb : cap ≤ 9223372036854775807
  cells : 0 < l.length → ∃ b o, a = some ⟨b, o, none⟩ ∧ ∀ i p, l[i]? = some p → w.cell? ⟨b, o + i * 2, none⟩ = some (.int .i64 p.1) ∧ w.cell? ⟨b, o + i * 2 + 1, none⟩ = some (.int .i64 p.2)
theorem PairsIn.below {w w' : World} {a : Option Addr} {l : List (Int × Int)} {cap : Nat} (h : PairsIn w a l cap) (hb : Below w.heap.size w w') : PairsIn w' a l cap :=
  ⟨h.len, h.capb, fun hp => by
    obtain ⟨b, o, e, hc⟩ := h.cells hp
    exact ⟨b, o, e, fun i p hi => ⟨(hb.cell (p := ⟨b, o + i * 2, none⟩) (World.block_lt_of_cell? _ _ (hc i p hi).1)).trans (hc i p hi).1, (hb.cell (p := ⟨b, o + i * 2 + 1, none⟩) (World.block_lt_of_cell? _ _ (hc i p hi).2)).trans (hc i p hi).2⟩⟩⟩
theorem row_ext {L : Nat} {dk : Array Int} {xs : List Int} (hs : dk.size = L) (hx : xs.length = L) (h : ∀ i, i < L → dk[i]! = xs[i]?.getD 0) : dk = xs.toArray := by
  apply Array.ext_getElem?
  intro i
  by_cases hi : i < L
  · have h1 := h i hi
    rw [getElem!_pos dk i (by omega)] at h1
    rw [Array.getElem?_eq_getElem (by omega), h1]
    simp [hx, hi]
  · rw [Array.getElem?_eq_none (by omega), Array.getElem?_eq_none (by simp; omega)]
theorem row_step {L k : Nat} {dk : Array Int} {f : Nat → Int} (hs : dk.size = L) (hk : k < L) (h : ∀ i, i < k → dk[i]! = f i) : ∀ i, i < k + 1 → (dk.setIfInBounds k (f k))[i]! = f i := fun i hi => by
  rw [getElem!_pos _ i (by simp; omega), Array.getElem_setIfInBounds (by omega)]
  by_cases e : k = i
  · subst e; simp
  · rw [if_neg e]
    have := h i (by omega)
    rwa [getElem!_pos dk i (by omega)] at this

/-- What a map yields, or none. -/
def yieldE {K : Type} [DecidableEq K] (es : List (K × Int × Nat)) (x : K) : Int := (getE es x).getD (-1)

end Go.Proofs.Ytgmjppjgbalapaa

/- slices.Backward of bytes and of pairs: the iterators. -/
namespace Go.Proofs.Ytgmjppjgbalapaa
open Go.RowKit Go.Shelf Go.Proofs.Ytgmjppjgbalapaa.Plain01
attribute [local go_sem] Oper.semAt_some
set_option linter.unusedVariables false
set_option linter.unusedSimpArgs false

/-- The round j of a walk from the end. -/
def bk8 (l : List Int) (j : Nat) : Int × Int := (((l.length - 1 - j : Nat) : Int), l[l.length - 1 - j]?.getD 0)
def bk2 (l : List (Int × Int)) (j : Nat) : Int × Int × Int := (((l.length - 1 - j : Nat) : Int), l[l.length - 1 - j]?.getD (0, 0))
/-- What a round keeps: all that lay below N, but the block M. -/
def KpM (N M : Nat) (A B : World) : Prop := ∀ k, k < N → k ≠ M → B.heap[k]? = A.heap[k]?
theorem KpM.refl (N M : Nat) (A : World) : KpM N M A A := fun _ _ _ => rfl
theorem KpM.trans {N M : Nat} {A B C : World} (h : KpM N M A B) (k : KpM N M B C) : KpM N M A C := fun i hi hn => (k i hi hn).trans (h i hi hn)
theorem KpM.of_below {N M : Nat} {A B : World} (h : Below N A B) : KpM N M A B := fun i hi _ => h.block i hi
theorem KpM.put {N M : Nat} {w : World} (hN : N ≤ w.heap.size) (W : World) (l : Nat) (o o' : Obj) (hl : w.heap.size ≤ l) (_ : W.heap[l]? = some o) (_ : o.isCells = false) (_ : o.isWalk = false) : KpM N M W (W.putObj l o') := fun i hi _ => World.putObj_heap_other (by omega)
theorem KpM.cell {N M : Nat} {A B : World} (h : KpM N M A B) {p : Addr} {v : Value} (hc : A.cell? p = some v) (hN : p.block < N) (hM : p.block ≠ M) : B.cell? p = some v := by
  rw [← hc]
  unfold World.cell?
  rw [h _ hN hM]

end Go.Proofs.Ytgmjppjgbalapaa

/- firsts of package patch. -/
namespace Go.Proofs.Ytgmjppjgbalapaa
open Go.RowKit Go.Shelf Go.Proofs.Ytgmjppjgbalapaa.Plain01
attribute [local go_sem] Oper.semAt_some
set_option linter.unusedVariables false
set_option linter.unusedSimpArgs false

/-- The last number that came with an item. -/
def lastP {K : Type} [DecidableEq K] (pre : List (Int × K)) (y : K) : Option Int := pre.foldl (fun r x => if x.2 = y then some x.1 else r) none
theorem lastP_snoc {K : Type} [DecidableEq K] (pre : List (Int × K)) (x : Int × K) (y : K) : lastP (pre ++ [x]) y = if y = x.2 then some x.1 else lastP pre y := by
  unfold lastP
  rw [List.foldl_append]
  simp only [List.foldl_cons, List.foldl_nil]
  by_cases h : x.2 = y
  · rw [if_pos h, if_pos h.symm]
  · rw [if_neg h, if_neg (Ne.symm h)]
/-- What a map from items to their smallest places holds, from offset i on. -/
def restF {K : Type} [DecidableEq K] (l : List K) (i : Nat) (y : K) : Option Int := if fidx (l.drop i) y = -1 then none else some (i + fidx (l.drop i) y)
theorem restF_step {K : Type} [DecidableEq K] (l : List K) (i : Nat) (z : K) (h : l[i]? = some z) (y : K) : restF l i y = if y = z then some (i : Int) else restF l (i + 1) y := by
  obtain ⟨hi, hz⟩ := List.getElem?_eq_some_iff.1 h
  unfold restF
  rw [List.drop_eq_getElem_cons hi, hz]
  have hg := fidx_ge (l.drop (i + 1)) y
  by_cases e : z = y
  · have e1 : fidx (z :: l.drop (i + 1)) y = 0 := by simp [fidx, e]
    rw [e1, if_neg (by omega), if_pos e.symm]; simp
  · rw [if_neg (Ne.symm e)]
    by_cases hn : fidx (l.drop (i + 1)) y = -1
    · have e1 : fidx (z :: l.drop (i + 1)) y = -1 := by simp [fidx, e, hn]
      rw [e1, if_pos rfl, if_pos hn]
    · have e1 : fidx (z :: l.drop (i + 1)) y = fidx (l.drop (i + 1)) y + 1 := by simp [fidx, e, hn]
      rw [e1, if_neg (by omega), if_neg hn]
      simp only [Option.some.injEq]
      omega
theorem restF_0 {K : Type} [DecidableEq K] (l : List K) (y : K) : (restF l 0 y).getD (-1) = fidx l y := by
  unfold restF
  rw [List.drop_zero]
  split
  · rename_i h; rw [h]; rfl
  · simp
theorem lastP_bk8 (l : List Int) : ∀ k, k ≤ l.length → ∀ y, lastP (upto (bk8 l) k) y = restF l (l.length - k) y := by
  intro k
  induction k with
  | zero => intro _ y; simp [upto, lastP, restF, fidx]
  | succ k ih =>
    intro hk y
    rw [upto_succ, lastP_snoc, ih (by omega)]
    obtain ⟨z, hz⟩ : ∃ z, l[l.length - (k + 1)]? = some z := ⟨_, List.getElem?_eq_getElem (by omega)⟩
    have hb : bk8 l k = (((l.length - (k + 1) : Nat) : Int), z) := by unfold bk8; rw [show l.length - 1 - k = l.length - (k + 1) by omega, hz]; rfl
    rw [hb, restF_step l _ z hz, show l.length - (k + 1) + 1 = l.length - k by omega]
theorem lastP_bk2 (l : List (Int × Int)) : ∀ k, k ≤ l.length → ∀ y, lastP (upto (bk2 l) k) y = restF l (l.length - k) y := by
  intro k
  induction k with
  | zero => intro _ y; simp [upto, lastP, restF, fidx]
  | succ k ih =>
    intro hk y
    rw [upto_succ, lastP_snoc, ih (by omega)]
    obtain ⟨z, hz⟩ : ∃ z, l[l.length - (k + 1)]? = some z := ⟨_, List.getElem?_eq_getElem (by omega)⟩
    have hb : bk2 l k = (((l.length - (k + 1) : Nat) : Int), z) := by unfold bk2; rw [show l.length - 1 - k = l.length - (k + 1) by omega, hz]; rfl
    rw [hb, restF_step l _ z hz, show l.length - (k + 1) + 1 = l.length - k by omega]

theorem set_map {w W : World} {M : Nat} {o o' : Obj} (h : W.heap[M]? = some o) (hb : Below w.heap.size w W) (hM : w.heap.size ≤ M) :
    ({ W with heap := W.heap.setIfInBounds M o' } : World).heap[M]? = some o' ∧ (∀ k, k ≠ M → ({ W with heap := W.heap.setIfInBounds M o' } : World).heap[k]? = W.heap[k]?) ∧ Below w.heap.size w { W with heap := W.heap.setIfInBounds M o' } ∧ ({ W with heap := W.heap.setIfInBounds M o' } : World).heap.size = W.heap.size := by
  have hlt := (Array.getElem?_eq_some_iff.1 h).1
  have h2 : ∀ k, k ≠ M → ({ W with heap := W.heap.setIfInBounds M o' } : World).heap[k]? = W.heap[k]? := fun k hk => by
    show (W.heap.setIfInBounds M o')[k]? = _
    rw [Array.getElem?_setIfInBounds, if_neg (Ne.symm hk)]
  refine ⟨?_, h2, ⟨hb.os, hb.tape, hb.output, by simpa using hb.size, fun k hk => (h2 k (by omega)).trans (hb.block k hk)⟩, by simp⟩
  show (W.heap.setIfInBounds M o')[M]? = _
  rw [Array.getElem?_setIfInBounds, if_pos rfl, if_pos hlt]

/-- A new slice of numbers. -/
def IsInts (xs : List Int) : Value → World → Prop := fun v W => ∃ g, v = .slice (some ⟨g, 0, none⟩) xs.length xs.length ∧ IntsIn W (some ⟨g, 0, none⟩) xs xs.length
theorem stable_ints (xs : List Int) : Stable (fun W W' => Below W.heap.size W W') (IsInts xs) := fun v w w' ⟨g, h1, h2⟩ hE => ⟨g, h1, h2.below hE⟩

theorem ints_put {X : World} {D : Nat} {a : Option Addr} {l : List Int} {cap : Nat} (h : IntsIn X a l cap) (hK : X.heap[D]? = some (.deferred (some []))) : IntsIn (X.putObj D (.deferred none)) a l cap :=
  ⟨h.len, h.capb, fun hp => by
    obtain ⟨b, o, e, hc⟩ := h.cells hp
    exact ⟨b, o, e, fun i hi => cell_kept (hc i hi) (grownBy_putObj' X D (.deferred none)) (fun r e => by cases e; exact ⟨_, hK, rfl⟩)⟩⟩

/-- Two new rows. -/
def FirstsPost (p q : List Int) (w : World) (e : Ending) (w' : World) : Prop :=
  ∃ g1 g2, e = .returned (.tuple #[.slice (some ⟨g1, 0, none⟩) p.length p.length, .slice (some ⟨g2, 0, none⟩) q.length q.length]) ∧ IntsIn w' (some ⟨g1, 0, none⟩) p p.length ∧ IntsIn w' (some ⟨g2, 0, none⟩) q q.length ∧ Below w.heap.size w w'

end Go.Proofs.Ytgmjppjgbalapaa

/- pairs of package patch. -/
namespace Go.Proofs.Ytgmjppjgbalapaa
open Go.RowKit
set_option linter.unusedVariables false
set_option linter.unusedSimpArgs false

def zeroPair : Array Value := #[.int .i64 0, .int .i64 0]
theorem made_size (z : Array Value) (n : Nat) : (madeCells z n).size = n := by unfold madeCells; simp

/-- The first pairs lie in the row. -/
def RowHas2 (R : Array Value) (ps : List (Int × Int)) : Prop := ∀ i p, ps[i]? = some p → R[i * 2]? = some (.int .i64 p.1) ∧ R[i * 2 + 1]? = some (.int .i64 p.2)
abbrev put2A (R : Array Value) (i : Nat) (p : Int × Int) : Array Value := (R.setIfInBounds (i * 2) (.int .i64 p.1)).setIfInBounds (i * 2 + 1) (.int .i64 p.2)
theorem rowHas2_snoc {R : Array Value} {ps : List (Int × Int)} {p : Int × Int} (h : RowHas2 R ps) (hs : ps.length * 2 + 2 ≤ R.size) : RowHas2 (put2A R ps.length p) (ps ++ [p]) := by
  intro i q hi
  have hil : i < (ps ++ [p]).length := (List.getElem?_eq_some_iff.1 hi).1
  rw [List.length_append, List.length_singleton] at hil
  unfold put2A
  by_cases e : i = ps.length
  · subst e
    simp only [List.getElem?_append_right (Nat.le_refl _), Nat.sub_self, List.getElem?_cons_zero, Option.some.injEq] at hi
    subst hi
    refine ⟨?_, ?_⟩
    · rw [Array.getElem?_setIfInBounds, if_neg (by omega), Array.getElem?_setIfInBounds, if_pos rfl]
      simp; omega
    · rw [Array.getElem?_setIfInBounds, if_pos rfl]
      simp; omega
  · rw [List.getElem?_append_left (by omega)] at hi
    obtain ⟨h1, h2⟩ := h i q hi
    refine ⟨?_, ?_⟩
    · rw [Array.getElem?_setIfInBounds, if_neg (by omega), Array.getElem?_setIfInBounds, if_neg (by omega), h1]
    · rw [Array.getElem?_setIfInBounds, if_neg (by omega), Array.getElem?_setIfInBounds, if_neg (by omega), h2]
/-- New pairs. -/
def PairsPost (ps : List (Int × Int)) (w : World) (e : Ending) (w' : World) : Prop :=
  ∃ g, e = .returned (.slice (some ⟨g, 0, none⟩) ps.length ps.length) ∧ PairsIn w' (some ⟨g, 0, none⟩) ps ps.length ∧ Below w.heap.size w w'
theorem pairsL_take {t : Nat} {l : List Int} {k : Nat} (h : k < l.length - t) : (pairsL t l).take (k + 1) = (pairsL t l).take k ++ [(l[k]?.getD 0, l[k + t]?.getD 0)] := by
  have h1 : (pairsL t l)[k]? = some (l[k]?.getD 0, l[k + t]?.getD 0) := by
    unfold pairsL
    rw [List.getElem?_map, List.getElem?_range h]
    rfl
  rw [List.take_add_one, h1]
  rfl

end Go.Proofs.Ytgmjppjgbalapaa

/- common, blockOffsets of package patch. -/
namespace Go.Proofs.Ytgmjppjgbalapaa
open Go.RowKit
set_option linter.unusedVariables false
set_option linter.unusedSimpArgs false

/-- The offsets of the blocks of new in old. -/
def offL (old new : List Int) (block : Int) : List Int := if block < 1 ∨ (min old.length new.length : Int) < block then [] else firstW block.toNat old new
/-- A slice of numbers, its capacity its length. -/
def OffsPost (xs : List Int) (w : World) (e : Ending) (w' : World) : Prop := ∃ a, e = .returned (.slice a xs.length xs.length) ∧ IntsIn w' a xs xs.length ∧ Below w.heap.size w w'
theorem firstW_len1 {s : Nat} {a x : List Int} (h : s ≤ x.length) : (firstW s a x).length = x.length + 1 - s := firstW_length s a x

end Go.Proofs.Ytgmjppjgbalapaa

/- finder of package patch, and the function that it returns. -/
namespace Go.Proofs.Ytgmjppjgbalapaa
open Go.RowKit
set_option linter.unusedVariables false
set_option linter.unusedSimpArgs false

/-- The bytes from n on. -/
def slA8 (a : Option Addr) (cap n : Nat) : Option Addr := if cap = n then a else a.map (·.add (n * 1))
theorem cut8_l {a : Option Addr} {L cap : Nat} (n : Nat) (hn : n ≤ L) (hc : L ≤ cap) (W : World) : (Instr.slice 24 (.slice a L cap) (some (.int .i64 (n : Int))) none none).run Try.prog W = .ok (.slice (slA8 a cap n) (L - n) (cap - n)) W := by
  rw [run_slice_l (P := Try.prog) W 24 a L cap (by kernel_rfl) .i64 (n : Int) (by omega) (by omega), size_u8]
  simp only [Result.andThen_ok, sliced, Int.toNat_natCast, slA8]
theorem BytesIn.from8 {w : World} {a : Option Addr} {l : List Int} {cap : Nat} (h : BytesIn w a l cap) (n : Nat) (hn : n ≤ l.length) : BytesIn w (slA8 a cap n) (l.drop n) (cap - n) := by
  have hl := h.len
  refine ⟨by rw [List.length_drop]; omega, by have := h.capb; omega, fun hp => ?_, fun h0 => ?_⟩
  · rw [List.length_drop] at hp
    obtain ⟨b, o, rfl, hc⟩ := h.cells (by omega)
    refine ⟨b, o + n, ?_, fun i hi => ?_⟩
    · unfold slA8
      rw [if_neg (by omega)]
      simp [Addr.add_mid]
    · rw [List.length_drop] at hi
      rw [Nat.add_assoc, hc (n + i) (by omega), List.getElem?_drop]
  · unfold slA8 at h0
    by_cases hc : cap = n
    · omega
    · rw [if_neg hc] at h0
      cases a with
      | none => have := h.nil rfl; omega
      | some ad => cases h0


/-- What the found function returns. -/
def qn8 : Option (Nat × Nat) → Int × Int
  | some (q, n) => (q, n)
  | none => (0, 0)
theorem offL_ge {l x : List Int} {block : Int} {p : Nat} (h : (offL l x block).length ≤ p) (hp : p ≤ x.length) : findN l x block p = none := by
  unfold findN
  split
  · rfl
  · rename_i h1
    unfold offL at h
    split at h
    · rename_i h2
      have hl : (l.length : Int) < block := by omega
      have hw : wins block.toNat l = [] := List.eq_nil_of_length_eq_zero (by rw [wins_length]; omega)
      rw [hw]; exact if_pos rfl
    · rw [firstW_length] at h
      omega
theorem offL_at {l x : List Int} {block : Int} {p : Nat} (h : p < (offL l x block).length) : ∃ o : Int, (offL l x block)[p]? = some o ∧ p ≤ x.length ∧ ((o = -1 ∧ findN l x block p = none) ∨ ∃ q : Nat, o = q ∧ q ≤ l.length ∧ findN l x block p = some (q, comm (l.drop q) (x.drop p))) := by
  unfold offL at h ⊢
  split at h
  · simp at h
  · rename_i h1
    rw [if_neg h1]
    have hl := h
    rw [firstW_length] at hl
    have hb : p + block.toNat ≤ x.length := by omega
    have hg : (firstW block.toNat l x)[p]? = some (fidx (wins block.toNat l) ((x.drop p).take block.toNat)) := by
      unfold firstW
      rw [List.getElem?_map, wins_get hb]
      rfl
    refine ⟨_, hg, by omega, ?_⟩
    have hn : ¬ (block < 1 ∨ (x.length : Int) - p < block) := by omega
    unfold findN
    rw [if_neg hn]
    by_cases hm : fidx (wins block.toNat l) ((x.drop p).take block.toNat) = -1
    · exact .inl ⟨hm, by rw [if_pos hm]⟩
    · obtain ⟨q, hq, -, hql⟩ := fidx_at hm
      rw [wins_length] at hql
      exact .inr ⟨q, hq, by omega, by rw [if_neg hm, hq, Int.toNat_natCast]⟩

/-- The boxes that the found function reads. -/
structure FindBox (w : World) (g1 g2 g3 : Nat) (a b c : Option Addr) (l x : List Int) (cap capx : Nat) (block : Int) : Prop where
  o : w.heap[g1]? = some (.cells #[.slice c (offL l x block).length (offL l x block).length] 41 (0, 0))
  h2 : w.heap[g2]? = some (.cells #[.slice a l.length cap] 24 (0, 0))
  h3 : w.heap[g3]? = some (.cells #[.slice b x.length capx] 24 (0, 0))
  hO : IntsIn w c (offL l x block) (offL l x block).length
  hl : BytesIn w a l cap
  hx : BytesIn w b x capx
theorem FindBox.below {w w' : World} {g1 g2 g3 : Nat} {a b c : Option Addr} {l x : List Int} {cap capx : Nat} {block : Int} (h : FindBox w g1 g2 g3 a b c l x cap capx block) (hb : Below w.heap.size w w') : FindBox w' g1 g2 g3 a b c l x cap capx block :=
  ⟨heap_below h.o hb, heap_below h.h2 hb, heap_below h.h3 hb, h.hO.below hb, h.hl.below hb, h.hx.below hb⟩
/-- The found function's boxes, as it is handed to another. -/
abbrev findB (g1 g2 g3 : Nat) : Array Value := #[.pointer (some ⟨g1, 0, none⟩), .pointer (some ⟨g2, 0, none⟩), .pointer (some ⟨g3, 0, none⟩)]
theorem box_cell {w : World} {g : Nat} {v : Value} {t : TypeId} (h : w.heap[g]? = some (.cells #[v] t (0, 0))) (s : HeldW w []) : s.w.cell? ⟨g, 0, none⟩ = some v := by
  rw [cell_of (heap_below h s.below)]; rfl

abbrev bytesBox (v : Value) : Obj := .cells #[v] 24 (0, 0)
end Go.Proofs.Ytgmjppjgbalapaa

/- Readers of package wire: their blocks; left, ready, At, Rest, Fault, Fail, pass. -/
namespace Go.Proofs.Ytgmjppjgbalapaa
open Go.RowKit
set_option linter.unusedVariables false
set_option linter.unusedSimpArgs false

/-- It returns v; of what was there only block h has changed: it holds o now. -/
theorem gives_puts {P : Program} {f : FuncId} {args : Array Value} {v : Value} {w : World} {g : Nat} {o : Obj} (ho : w.heap[g]? = some o) (h : Calls P f args w (Gives v w)) : Calls P f args w (Puts g o v w) :=
  h.mono fun _ _ ⟨he, hb⟩ => ⟨he, But.of_below hb, heap_below ho hb⟩

end Go.Proofs.Ytgmjppjgbalapaa

/- Uint of package wire. -/
namespace Go.Proofs.Ytgmjppjgbalapaa
open Go.RowKit
set_option linter.unusedVariables false
set_option linter.unusedSimpArgs false

/-- One more digit. -/
def stepU (x d : Int) : Int := bits .or .u64 (IntKind.u64.wrap (x * 256)) (IntKind.u64.wrap d)
def beval (l : List Int) : Int := l.foldl stepU 0
theorem beval_snoc (l : List Int) {k : Nat} (hk : k < l.length) : beval (l.take (k + 1)) = stepU (beval (l.take k)) (l[k]?.getD 0) := by
  rw [List.take_succ_eq_append_getElem hk, List.getElem?_eq_getElem hk]
  simp only [beval, List.foldl_append, List.foldl_cons, List.foldl_nil, Option.getD_some]
/-- A cell outside of the block that may be written. -/
theorem src_cellX {w : World} {h : Nat} {b o : Nat} {v : Value} (hb : b ≠ h) (hc : w.cell? ⟨b, o, none⟩ = some v) {bs : List (Nat × Obj)} (s : HeldX w h bs) : s.w.cell? ⟨b, o, none⟩ = some v := by
  rw [← hc]; unfold World.cell?; rw [s.but.block b (World.block_lt_of_cell? w _ hc) hb]

/-- The bytes from lo to hi. -/
theorem cut_mid {w : World} {a : Option Addr} {l : List Int} {cap : Nat} (h : BytesIn w a l cap) (lo hi : Nat) (h1 : lo ≤ hi) (h2 : hi ≤ l.length) :
    ∃ A, (∀ W, (Instr.slice 24 (.slice a l.length cap) (some (.int .i64 (lo : Int))) (some (.int .i64 (hi : Int))) none).run Try.prog W = .ok (.slice A (hi - lo) (cap - lo)) W) ∧ BytesIn w A ((l.drop lo).take (hi - lo)) (cap - lo) := by
  have hlen : ((l.drop lo).take (hi - lo)).length = hi - lo := by rw [List.length_take, List.length_drop]; omega
  refine ⟨if cap = lo then a else a.map (·.add (lo * 1)), fun W => ?_, by rw [hlen]; have := h.len; omega, by have := h.capb; omega, fun hp => ?_, fun h0 => ?_⟩
  · rw [run_slice_lh (P := Try.prog) W 24 a l.length cap (by kernel_rfl) .i64 .i64 (lo : Int) (hi : Int) (by omega) (by omega) (by have := h.len; omega), size_u8]
    simp only [Result.andThen_ok, sliced, Int.toNat_natCast]
  · rw [hlen] at hp
    obtain ⟨b, o, rfl, hc⟩ := h.cells (by omega)
    have := h.len
    rw [if_neg (by omega)]
    refine ⟨b, o + lo, by simp [Addr.add_mid], fun i hi => ?_⟩
    rw [hlen] at hi
    rw [Nat.add_assoc, hc (lo + i) (by omega), List.getElem?_take, if_pos (by omega), List.getElem?_drop]
  · by_cases hc : cap = lo
    · omega
    · rw [if_neg hc] at h0
      cases a with
      | none => have := h.nil rfl; omega
      | some ad => cases h0
/-- Bytes outside of a block stay there. -/
theorem src_below {w w' : World} {h : Nat} {a : Option Addr} {l : List Int} (hs : Src w h a l) (hb : Below w.heap.size w w') : Src w' h a l := fun hp => by
  obtain ⟨b, o, rfl, hne, hc⟩ := hs hp
  exact ⟨b, o, rfl, hne, fun i hi => (hb.cell (p := ⟨b, o + i, none⟩) (World.block_lt_of_cell? _ _ (hc i hi))).trans (hc i hi)⟩

section
variable (g n L dcap : Nat) (da : Option Addr) (w : World)
end
end Go.Proofs.Ytgmjppjgbalapaa

/- bytes.Clone, New, Bytes; Length and Expect of a reader that is not ready. -/
namespace Go.Proofs.Ytgmjppjgbalapaa
open Go.RowKit
set_option linter.unusedVariables false
set_option linter.unusedSimpArgs false

theorem own_setCell6 {w : World} {base b : Nat} {e : TypeId} {v : Value} {n : Nat} {xs : List Value} (h : w.ownsRow base e 1 v n xs) (hb : b < base) (i : Nat) (u : Value) : (w.setCell ⟨b, i, none⟩ u).ownsRow base e 1 v n xs :=
  ⟨h.1, h.2.imp id fun ⟨g, cap, cur, h1, h2, h3, h4⟩ => ⟨g, cap, cur, h1, h2, (Below.heap_setCell _ _ _ _ (by simp only; omega)).trans h3, h4⟩⟩

abbrev sliO (v : Value) : Obj := .cells #[v] 24 (0, 0)
/-- What the function value of Bytes does: a copy of the bytes lies behind the captured variable. -/
def Copied (V : Nat) (l : List Int) (w w' : World) : Prop := But V w.heap.size w w' ∧ ∃ v, w'.heap[V]? = some (sliO v) ∧ w'.ownsRow w.heap.size 5 1 v l.length (l.map (Value.int .u8))

/-- It returns a new slice of bytes; of what was there only block g has changed: it holds o now. -/
def MakesPuts (g : Nat) (o : Obj) (l : List Int) (w : World) (e : Ending) (w' : World) : Prop := ∃ v, e = .returned v ∧ But g w.heap.size w w' ∧ w'.heap[g]? = some o ∧ w'.ownsRow w.heap.size 5 1 v l.length (l.map (Value.int .u8))

section
variable (g n L dcap : Nat) (da : Option Addr) (w : World)
end

end Go.Proofs.Ytgmjppjgbalapaa

/- A row that grows, whose elements hold slices of bytes that lie apart from it; one further block may be written; some blocks are held. -/
namespace Go.Proofs.Ytgmjppjgbalapaa
open Go.RowKit
set_option linter.unusedVariables false

abbrev Sl7 := Option Addr × List Int × Nat
def slV (p : Sl7) : Value := .slice p.1 p.2.1.length p.2.2
theorem bytes_keep {w w' : World} {a : Option Addr} {l : List Int} {cap : Nat} (h : BytesIn w a l cap) (hk : 0 < l.length → ∀ ad, a = some ad → ad.block < w.heap.size → w'.heap[ad.block]? = w.heap[ad.block]?) : BytesIn w' a l cap :=
  ⟨h.len, h.capb, fun hp => by
    obtain ⟨b, o, rfl, hc⟩ := h.cells hp
    refine ⟨b, o, rfl, fun i hi => ?_⟩
    have hb := World.block_lt_of_cell? _ _ (hc i hi)
    rw [← hc i hi]
    unfold World.cell?
    rw [hk hp _ rfl hb], h.nil⟩
theorem own_keep {w w' : World} {base : Nat} {e : TypeId} {size : Nat} {v : Value} {n : Nat} {xs : List Value} (h : w.ownsRow base e size v n xs) (hk : ∀ g, v.ownBlock = some g → g < w.heap.size → w'.heap[g]? = w.heap[g]?) : w'.ownsRow base e size v n xs :=
  ⟨h.1, h.2.imp id fun ⟨g, cap, cur, e1, e2, e3, e4⟩ => ⟨g, cap, cur, e1, e2, (hk g (by rw [e1]; rfl) (Array.getElem?_eq_some_iff.1 e3).1).trans e3, e4⟩⟩

/-- Below B at most the block h has changed. -/
structure ButO (h : Option Nat) (B : Nat) (w w' : World) : Prop where
  os : w'.os = w.os
  tape : w'.tape = w.tape
  output : w'.output = w.output
  size : w.heap.size ≤ w'.heap.size
  block : ∀ k, k < B → h ≠ some k → w'.heap[k]? = w.heap[k]?
theorem ButO.of_below {h : Option Nat} {B : Nat} {w w' : World} (b : Below B w w') : ButO h B w w' := ⟨b.os, b.tape, b.output, b.size, fun k hk _ => b.block k hk⟩
theorem ButO.of_but {h B : Nat} {w w' : World} (b : But h B w w') : ButO (some h) B w w' := ⟨b.os, b.tape, b.output, b.size, fun k hk hn => b.block k hk (fun e => hn (by rw [e]))⟩
theorem ButO.below {B : Nat} {w w' : World} (b : ButO none B w w') : Below B w w' := ⟨b.os, b.tape, b.output, b.size, fun k hk => b.block k hk (fun h => by cases h)⟩
theorem ButO.below' {h B : Nat} {w w' : World} (b : ButO (some h) B w w') (hB : B ≤ h) : Below B w w' := ⟨b.os, b.tape, b.output, b.size, fun k hk => b.block k hk (fun e => by cases e; omega)⟩
theorem ButO.trans {h : Option Nat} {B : Nat} {a b c : World} (p : ButO h B a b) (q : ButO h B b c) : ButO h B a c :=
  ⟨q.os.trans p.os, q.tape.trans p.tape, q.output.trans p.output, Nat.le_trans p.size q.size, fun i hi hn => (q.block i hi hn).trans (p.block i hi hn)⟩
theorem ButO.mono {h : Option Nat} {B B' : Nat} {w w' : World} (p : ButO h B w w') (hB : B' ≤ B) : ButO h B' w w' := ⟨p.os, p.tape, p.output, p.size, fun k hk => p.block k (Nat.lt_of_lt_of_le hk hB)⟩

/-- The row v of n elements of so many cells. -/
structure Grow (w0 : World) (h : Option Nat) (bs : List (Nat × Obj)) (els : List Sl7) (e : TypeId) (size : Nat) (v : Value) (n : Nat) (xs : List Value) where
  w : World
  but : ButO h w0.heap.size w0 w
  own : w.ownsRow w0.heap.size e size v n xs
  hown : ∀ g, h = some g → v.ownBlock ≠ some g ∧ g < w.heap.size
  blocks : ∀ p ∈ bs, w.heap[p.1]? = some p.2 ∧ v.ownBlock ≠ some p.1
  el : ∀ p ∈ els, BytesIn w p.1 p.2.1 p.2.2 ∧ (0 < p.2.1.length → ∀ ad, p.1 = some ad → v.ownBlock ≠ some ad.block ∧ h ≠ some ad.block)

section
variable {w0 : World} {h : Option Nat} {bs : List (Nat × Obj)} {els : List Sl7} {e : TypeId} {size : Nat} {v : Value} {n : Nat} {xs : List Value}
theorem Grow.ownLt (S : Grow w0 h bs els e size v n xs) {g : Nat} (hg : v.ownBlock = some g) : g < S.w.heap.size := (S.own.lt g hg).2
/-- A step that changes at most block h, and makes new ones. -/
theorem Grow.keep (S : Grow w0 h bs els e size v n xs) {w' : World} (hb : ButO h S.w.heap.size S.w w') (bs' : List (Nat × Obj)) (hbs : ∀ p ∈ bs', w'.heap[p.1]? = some p.2 ∧ v.ownBlock ≠ some p.1) : ∃ S' : Grow w0 h bs' els e size v n xs, w' = S'.w := by
  have hk : ∀ g, v.ownBlock = some g → g < S.w.heap.size → w'.heap[g]? = S.w.heap[g]? := fun g hg hl => hb.block g hl (fun hgh => (S.hown g hgh).1 hg)
  exact ⟨⟨w', S.but.trans ⟨hb.os, hb.tape, hb.output, hb.size, fun k hk hn => hb.block k (Nat.lt_of_lt_of_le hk S.but.size) hn⟩, own_keep S.own hk, fun g hg => ⟨(S.hown g hg).1, Nat.lt_of_lt_of_le (S.hown g hg).2 hb.size⟩, hbs, fun p hp => by
    obtain ⟨h1, h2⟩ := S.el p hp
    exact ⟨bytes_keep h1 fun hl ad had hlt => hb.block _ hlt (h2 hl ad had).2, h2⟩⟩, rfl⟩
theorem Grow.held (S : Grow w0 h bs els e size v n xs) {w' : World} (hb : Below S.w.heap.size S.w w') : ∀ p ∈ bs, w'.heap[p.1]? = some p.2 ∧ v.ownBlock ≠ some p.1 := fun p hp => by
  obtain ⟨h1, h2⟩ := S.blocks p hp
  exact ⟨(hb.block _ (Array.getElem?_eq_some_iff.1 h1).1).trans h1, h2⟩
theorem Grow.later (S : Grow w0 h bs els e size v n xs) {w' : World} (hb : Below S.w.heap.size S.w w') : ∃ S' : Grow w0 h bs els e size v n xs, w' = S'.w :=
  S.keep (ButO.of_below hb) bs (S.held hb)
theorem Grow.drewC (S : Grow w0 h bs els e size v n xs) : ∃ S' : Grow w0 h bs els e size v n xs, S.w.drew = S'.w := S.later (Below.refl _ _).drew
theorem Grow.push (S : Grow w0 h bs els e size v n xs) (o : Obj) : ∃ S' : Grow w0 h ((S.w.heap.size, o) :: bs) els e size v n xs, S.w.alloc o = S'.w :=
  S.keep (ButO.of_below ((Below.refl _ S.w).alloc (Nat.le_refl _) o)) _ (List.forall_mem_cons.2 ⟨⟨World.alloc_heap_new S.w o, fun hg => by have := S.ownLt hg; simp only at this; omega⟩, S.held ((Below.refl _ S.w).alloc (Nat.le_refl _) o)⟩)
theorem Grow.more (S : Grow w0 h bs els e size v n xs) (o : Obj) : ∃ (B : Nat) (S' : Grow w0 h ((B, o) :: bs) els e size v n xs), B = S.w.heap.size ∧ S.w.alloc o = S'.w := by
  obtain ⟨S', hS⟩ := S.push o
  exact ⟨_, S', rfl, hS⟩
theorem Grow.sub (S : Grow w0 h bs els e size v n xs) {bs' : List (Nat × Obj)} (hs : ∀ p ∈ bs', p ∈ bs) : ∃ S' : Grow w0 h bs' els e size v n xs, S.w = S'.w :=
  ⟨⟨S.w, S.but, S.own, S.hown, fun p hp => S.blocks p (hs p hp), S.el⟩, rfl⟩
theorem Grow.elsub (S : Grow w0 h bs els e size v n xs) {els' : List Sl7} (hs : ∀ p ∈ els', p ∈ els) : ∃ S' : Grow w0 h bs els' e size v n xs, S.w = S'.w :=
  ⟨⟨S.w, S.but, S.own, S.hown, S.blocks, fun p hp => S.el p (hs p hp)⟩, rfl⟩
/-- The same row, its number and its cells in other words. -/
theorem Grow.conv (S : Grow w0 h bs els e size v n xs) {n' : Nat} {xs' : List Value} (hn : n = n') (hx : xs = xs') : ∃ S' : Grow w0 h bs els e size v n' xs', S.w = S'.w := by subst hn; subst hx; exact ⟨S, rfl⟩
theorem Grow.call {P : Program} {f : FuncId} {args : Array Value} {u : Value} {S : Grow w0 h bs els e size v n xs} (hc : Calls P f args S.w (Gives u S.w)) :
    Calls P f args S.w fun en w'' => en = .returned u ∧ ∃ S' : Grow w0 h bs els e size v n xs, w'' = S'.w :=
  hc.mono fun _ w'' ⟨he, hb⟩ => ⟨he, S.later hb⟩
/-- One more slice of bytes that lies apart. -/
theorem Grow.addEl (S : Grow w0 h bs els e size v n xs) (p : Sl7) (h1 : BytesIn S.w p.1 p.2.1 p.2.2) (h2 : 0 < p.2.1.length → ∀ ad, p.1 = some ad → v.ownBlock ≠ some ad.block ∧ h ≠ some ad.block) : ∃ S' : Grow w0 h bs (p :: els) e size v n xs, S.w = S'.w :=
  ⟨⟨S.w, S.but, S.own, S.hown, S.blocks, List.forall_mem_cons.2 ⟨⟨h1, h2⟩, S.el⟩⟩, rfl⟩
/-- A new slice of its own that a callee has made: one more. -/
theorem own_sl {w : World} {base : Nat} {u : Value} {l : List Int} (ho : w.ownsRow base 5 1 u l.length (l.map (Value.int .u8))) : ∃ A C, u = .slice A l.length C ∧ BytesIn w A l C ∧ (∀ ad, A = some ad → base ≤ ad.block ∧ ad.block < w.heap.size) := by
  have h2 := ho.2
  rcases h2 with ⟨rfl, h0⟩ | ⟨g, cap, cur, rfl, hg, hb, hc, hm, hs, ht⟩
  · exact ⟨none, 0, by rw [h0], ⟨by omega, by omega, fun hp => by omega, fun _ => rfl⟩, fun ad h => by cases h⟩
  · refine ⟨_, cap, rfl, ⟨hc, by unfold maxLen at hm; omega, fun hp => ⟨g, 0, rfl, fun i hi => ?_⟩, fun h => by cases h⟩, fun ad h => by cases h; exact ⟨hg, (Array.getElem?_eq_some_iff.1 hb).1⟩⟩
    have hx : (l.map (Value.int .u8))[i]? = some (.int .u8 (l[i]?.getD 0)) := by rw [List.getElem?_map, List.getElem?_eq_getElem hi]; rfl
    have := ho.cells (g := g) rfl i _ hx
    rwa [Addr.add_mid] at this

/-- An append to the row. -/
theorem Grow.run_append {P : Program} {t : TypeId} (E : ElemS P t e size) (S : Grow w0 h bs els e size v n xs) (ty : TypeId) (ad : Addr) (m c : Nat) (news : List Value) (hl : news.length = m * size)
    (hnews : ∀ j u, news[j]? = some u → S.w.cell? (ad.add j) = some u) (h1 : ∀ u ∈ news, u.oneCell' = true) (h63 : n + m ≤ maxLen) (hbytes : (n + m) * E.bytes ≤ 140737488355328) :
    ∃ v' w', (Builtin.append_ #[t, t] ty #[v, .slice (some ad) m c]).run P S.w = .ok v' w' ∧ ∃ S' : Grow w0 h bs els e size v' (n + m) (xs ++ news), w' = S'.w := by
  obtain ⟨v', w', hrun, ho, hg, hiff⟩ := run_append_own (P := P) S.w w0.heap.size t ty e E.i E.z size E.bytes E.ht E.hi E.hz E.hsize E.hby E.hzs E.hsz v n xs S.own ad m c news hl hnews h1 h63 hbytes S.but.size
  have hblk := append_block E ty S.own ad hl hnews h1 h63 hbytes hrun hiff
  have hne : ∀ k, k < S.w.heap.size → v.ownBlock ≠ some k → v'.ownBlock ≠ some k := fun k hk hv hv' => by
    rcases hblk with hb | hb
    · rw [hb] at hv'; exact hv hv'
    · rw [hb] at hv'; cases hv'; omega
  have hkeep : ∀ k, k < S.w.heap.size → v.ownBlock ≠ some k → w'.heap[k]? = S.w.heap[k]? := fun k hk hv => hg.block k hk (fun he => hv he.symm)
  refine ⟨v', w', hrun, ⟨w', S.but.trans ⟨hg.os, hg.tape, hg.output, hg.size, fun k hk hn => hg.block k (Nat.lt_of_lt_of_le hk S.but.size) (fun he => ?_)⟩, ho, fun g hgh => ⟨hne g (S.hown g hgh).2 (S.hown g hgh).1, Nat.lt_of_lt_of_le (S.hown g hgh).2 hg.size⟩, fun p hp => ?_, fun p hp => ?_⟩, rfl⟩
  · have := (S.own.lt k he.symm).1
    omega
  · obtain ⟨h1, h2⟩ := S.blocks p hp
    have hlt := (Array.getElem?_eq_some_iff.1 h1).1
    exact ⟨(hkeep _ hlt h2).trans h1, hne _ hlt h2⟩
  · obtain ⟨h1, h2⟩ := S.el p hp
    refine ⟨bytes_keep h1 fun hl ad had hlt => hkeep _ hlt (h2 hl ad had).1, fun hl ad had => ?_⟩
    obtain ⟨b, o, he, hc⟩ := h1.cells hl
    have hlt := World.block_lt_of_cell? _ _ (hc 0 hl)
    obtain ⟨h3, h4⟩ := h2 hl ad had
    rw [he] at had
    cases had
    exact ⟨hne _ hlt h3, h4⟩
theorem Grow.append {P : Program} {t : TypeId} (E : ElemS P t e size) {ops : Array Oper} {rest : List Oper} {o : Oper} {a : Act} {Q : Exit → Act → World → Prop} (S : Grow w0 h bs els e size v n xs) (sO srcO : Operand)
    (hgd : o.guard = none) (ho : o.op = .call { callee := .builtin .append, args := #[sO, srcO], argTypes := #[t, t] }) (hs : a.eval sO = v) (ad : Addr) (m c : Nat) (news : List Value) (hl : news.length = m * size) (hx : a.eval srcO = .slice (some ad) m c)
    (hnews : ∀ j u, news[j]? = some u → S.w.cell? (ad.add j) = some u) (h1 : ∀ u ∈ news, u.oneCell' = true) (h63 : n + m ≤ maxLen) (hbytes : (n + m) * E.bytes ≤ 140737488355328)
    (H : ∀ v' (S' : Grow w0 h bs els e size v' (n + m) (xs ++ news)), wpList P ops Q rest (a.put o.dst v') S'.w) : wpList P ops Q (o :: rest) a S.w := by
  obtain ⟨v', w', hrun, S', rfl⟩ := S.run_append E o.type ad m c news hl hnews h1 h63 hbytes
  refine wpList_plain hgd fun K hK => ?_
  unfold Oper.wp
  simp [execOp, ho, resolve, invoke, builtin, hs, hx, hrun, Result.andThen]
  exact hK _ _ (H v' S')
/-- The same of a source that may be nil. -/
theorem Grow.appendO {P : Program} {t : TypeId} (E : ElemS P t e size) {ops : Array Oper} {rest : List Oper} {o : Oper} {a : Act} {Q : Exit → Act → World → Prop} (S : Grow w0 h bs els e size v n xs) (sO srcO : Operand)
    (hgd : o.guard = none) (ho : o.op = .call { callee := .builtin .append, args := #[sO, srcO], argTypes := #[t, t] }) (hs : a.eval sO = v) (sp : Option Addr) (m c : Nat) (news : List Value) (hl : news.length = m * size) (hx : a.eval srcO = .slice sp m c) (hnil : sp = none → m = 0 ∧ c = 0)
    (hnews : ∀ ad, sp = some ad → ∀ j u, news[j]? = some u → S.w.cell? (ad.add j) = some u) (h1 : ∀ u ∈ news, u.oneCell' = true) (h63 : n + m ≤ maxLen) (hbytes : (n + m) * E.bytes ≤ 140737488355328)
    (H : ∀ v' (S' : Grow w0 h bs els e size v' (n + m) (xs ++ news)), wpList P ops Q rest (a.put o.dst v') S'.w) : wpList P ops Q (o :: rest) a S.w := by
  cases sp with
  | some ad => exact S.append E sO srcO hgd ho hs ad m c news hl hx (hnews ad rfl) h1 h63 hbytes H
  | none =>
    obtain ⟨rfl, rfl⟩ := hnil rfl
    obtain rfl := List.eq_nil_of_length_eq_zero (by rw [hl, Nat.zero_mul])
    have hrun := run_append_owned_none (P := P) (w := S.w) w0.heap.size t o.type e E.i size E.ht E.hi v n xs S.own
    refine wpList_plain hgd fun K hK => ?_
    unfold Oper.wp
    simp [execOp, ho, resolve, invoke, builtin, hs, hx, hrun, Result.andThen]
    obtain ⟨S', hS'⟩ := S.conv (n' := n + 0) (xs' := xs ++ []) rfl (by simp)
    rw [hS']
    exact hK _ _ (H v S')
/-- A callee's new slice takes the place of the row. -/
theorem Grow.swap (S : Grow w0 h bs els e size v n xs) {e' : TypeId} {v' : Value} {xs' : List Value} (so : OwnW S.w e' v' xs') : ∃ S' : Grow w0 h bs els e' 1 v' xs'.length xs', so.w = S'.w := by
  have hge : ∀ g, v'.ownBlock = some g → S.w.heap.size ≤ g := fun g hg => (so.own.lt g hg).1
  refine ⟨⟨so.w, S.but.trans (ButO.of_below (so.below.mono S.but.size)), ⟨so.own.1, so.own.2.imp id fun ⟨g, cap, cur, e1, e2, e3⟩ => ⟨g, cap, cur, e1, Nat.le_trans S.but.size e2, e3⟩⟩, fun g hg => ⟨fun hv => ?_, Nat.lt_of_lt_of_le (S.hown g hg).2 so.below.size⟩, fun p hp => ?_, fun p hp => ?_⟩, rfl⟩
  · have := hge g hv
    have := (S.hown g hg).2
    omega
  · obtain ⟨h1, h2⟩ := S.blocks p hp
    have hlt := (Array.getElem?_eq_some_iff.1 h1).1
    exact ⟨(so.below.block _ hlt).trans h1, fun hv => by have := hge _ hv; omega⟩
  · obtain ⟨h1, h2⟩ := S.el p hp
    refine ⟨h1.below so.below, fun hl ad had => ⟨fun hv => ?_, (h2 hl ad had).2⟩⟩
    obtain ⟨b, o, he, hc⟩ := h1.cells hl
    have hlt := World.block_lt_of_cell? _ _ (hc 0 hl)
    rw [he] at had
    cases had
    have := hge _ hv
    simp only at this hlt
    omega
end

/-- The row as bytes. -/
theorem Grow.bytes {w0 : World} {h : Option Nat} {bs : List (Nat × Obj)} {els : List Sl7} {v : Value} {n : Nat} {l : List Int} (S : Grow w0 h bs els 5 1 v n (l.map (Value.int .u8))) : l.length = n ∧ ∃ a cap, v = .slice a n cap ∧ BytesIn S.w a l cap := by
  have hl : l.length = n := by have := S.own.1; simpa using this
  subst hl
  obtain ⟨A, C, h1, h2, -⟩ := own_sl S.own
  exact ⟨rfl, A, C, h1, h2⟩
theorem Grow.ofOwn {w0 : World} {e : TypeId} {v : Value} {xs : List Value} (s : OwnW w0 e v xs) : ∃ S : Grow w0 none [] [] e 1 v xs.length xs, s.w = S.w :=
  ⟨⟨s.w, ButO.of_below s.below, s.own, (fun g hg => by cases hg), (fun p hp => by simp at hp), (fun p hp => by simp at hp)⟩, rfl⟩

section
variable {w0 : World} {h : Nat} {bs : List (Nat × Obj)} {els : List Sl7} {e : TypeId} {size : Nat} {v : Value} {n : Nat} {xs : List Value}
/-- A callee that writes block h. -/
theorem Grow.puts {P : Program} {f : FuncId} {args : Array Value} {u : Value} {o o' : Obj} {S : Grow w0 (some h) ((h, o) :: bs) els e size v n xs} (hne : ∀ p ∈ bs, p.1 ≠ h) (hc : Calls P f args S.w (Puts h o' u S.w)) :
    Calls P f args S.w fun en w'' => en = .returned u ∧ ∃ S' : Grow w0 (some h) ((h, o') :: bs) els e size v n xs, w'' = S'.w :=
  hc.mono fun _ w'' ⟨he, hb, ho⟩ => ⟨he, S.keep (ButO.of_but hb) _ (List.forall_mem_cons.2 ⟨⟨ho, (S.hown h rfl).1⟩, fun p hp => by
    obtain ⟨h1, h2⟩ := S.blocks p (List.mem_cons_of_mem _ hp)
    exact ⟨(hb.block _ (Array.getElem?_eq_some_iff.1 h1).1 (hne p hp)).trans h1, h2⟩⟩)⟩
theorem Grow.makesPuts {P : Program} {f : FuncId} {args : Array Value} {l : List Int} {o o' : Obj} {S : Grow w0 (some h) ((h, o) :: bs) els e size v n xs} (hne : ∀ p ∈ bs, p.1 ≠ h) (hc : Calls P f args S.w (MakesPuts h o' l S.w)) :
    Calls P f args S.w fun en w'' => ∃ A C, en = .returned (.slice A l.length C) ∧ ∃ S' : Grow w0 (some h) ((h, o') :: bs) ((A, l, C) :: els) e size v n xs, w'' = S'.w :=
  hc.mono fun _ w'' ⟨u, he, hb, ho, hrow⟩ => by
    obtain ⟨A, C, rfl, hB, hA⟩ := own_sl hrow
    obtain ⟨S1, h1⟩ := S.keep (ButO.of_but hb) ((h, o') :: bs) (List.forall_mem_cons.2 ⟨⟨ho, (S.hown h rfl).1⟩, fun p hp => by
      obtain ⟨h1, h2⟩ := S.blocks p (List.mem_cons_of_mem _ hp)
      exact ⟨(hb.block _ (Array.getElem?_eq_some_iff.1 h1).1 (hne p hp)).trans h1, h2⟩⟩)
    rw [h1] at hB
    obtain ⟨S2, h2⟩ := S1.addEl (A, l, C) hB (fun _ ad had => by
      have := hA ad had
      refine ⟨fun hg => ?_, fun hg => ?_⟩
      · have := S.ownLt hg
        omega
      · have := (S.hown _ hg).2
        omega)
    exact ⟨A, C, he, S2, h1.trans h2⟩
end

/-- The first elements of a row of slices, in a new block. -/
theorem Grow.init (W : World) (els : List Sl7) (cs : Array Value) (hcs : cs = (els.map slV).toArray) (hel : ∀ p ∈ els, BytesIn W p.1 p.2.1 p.2.2) (n : Nat) (hn : els.length = n) (hl : n ≤ 1000) :
    ∃ S : Grow W none [] els 24 1 (.slice (some ⟨W.heap.size, 0, none⟩) n n) n (els.map slV), W.alloc (.cells cs 24) = S.w := by
  subst hn
  have hb : Below W.heap.size W (W.alloc (.cells cs 24)) := (Below.refl _ W).alloc (Nat.le_refl _) _
  have hsz : cs.size = els.length * 1 := by rw [hcs]; simp
  have htk : cs.toList.take (els.length * 1) = els.map slV := by rw [hcs, Nat.mul_one]; exact List.take_of_length_le (by simp)
  have hown : (W.alloc (.cells cs 24)).ownsRow W.heap.size 24 1 (.slice (some ⟨W.heap.size, 0, none⟩) els.length els.length) els.length (els.map slV) :=
    ⟨by rw [List.length_map, Nat.mul_one], .inr ⟨W.heap.size, els.length, cs, rfl, Nat.le_refl _, World.alloc_heap_new W _, Nat.le_refl _, (by unfold maxLen; omega), hsz, htk⟩⟩
  refine ⟨⟨_, ButO.of_below hb, hown, (fun g hg => by cases hg), (fun p hp => by simp at hp), (fun p hp => ⟨(hel p hp).below hb, fun hl ad had => ⟨fun hg => ?_, (fun hg => by cases hg)⟩⟩)⟩, rfl⟩
  obtain ⟨b, o, he, hc⟩ := (hel p hp).cells hl
  have hlt := World.block_lt_of_cell? _ _ (hc 0 hl)
  rw [he] at had
  cases had
  simp [Value.ownBlock] at hg
  simp only at hlt
  omega
end Go.Proofs.Ytgmjppjgbalapaa
