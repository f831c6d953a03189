import Derived.Sort.LotA
import Derived.LoopTactic
import Derived.Shelf.RegionOpenPlain
import Derived.Test.YtefonhnidkfbgaaE07d2
import Derived.Test.YtefonhnidkfbgaaProg
import Derived.BigQuiet
import Derived.Test.YtefonhnidkfbgaaE07d4
import Derived.RangeFuncBox
import Derived.RangeFuncLeaves
import Derived.RangeFuncNested
import Derived.Shelf.Abstract
import Derived.WalkKit
import Derived.OwnWalk
import Derived.OwnWalkIn
import Derived.TacticsInMore
import Derived.LoopNIn
import Derived.LoopIn
import Derived.Maps.AppendAt
import Derived.Lib.Hide
import Derived.Deep.DeepMust
import Derived.Test.YtefonhnidkfbgaaE07d3
/- The mathematics of slices.SortStableFunc over integers: insertion, exchanged ranges, rotations, merges in place, blocks. No Go text. slices.SortStableFunc over integers: the library's text, walked. slices.SortStableFunc over integers: the library's text, walked: rotations and merges. slices.SortStableFunc over integers: the library's text, walked: the merge in place, the blocks, the whole. slices.SortStableFunc over integers: the whole. -/
namespace Go.Proofs.Ytefonhnidkfbgaa
open Go.Sort
set_option linter.unusedVariables false

/-- Less by a key. -/
def ltK (key : Int → Int) : Int → Int → Bool := fun x y => decide (key x < key y)
theorem swoK (key : Int → Int) : SWO (ltK key) where
  irrefl x := by simp [ltK]
  trans x y z h1 h2 := by simp only [ltK, decide_eq_true_eq] at *; omega
  ntrans x y z h1 h2 := by simp only [ltK, decide_eq_false_iff_not] at *; omega
def AscIn (key : Int → Int) (a b : Nat) (d : Array Int) : Prop := ∀ i j, a ≤ i → i < j → j < b → key d[i]! ≤ key d[j]!
theorem ascIn_iff {key : Int → Int} {a b : Nat} {d : Array Int} : SortedIn (ltK key) a b d ↔ AscIn key a b d := by
  unfold SortedIn AscIn ltK
  constructor
  · intro h i j h1 h2 h3
    have := h i j h1 h2 h3
    simp only [decide_eq_false_iff_not] at this
    omega
  · intro h i j h1 h2 h3
    have := h i j h1 h2 h3
    simp only [decide_eq_false_iff_not]
    omega
theorem AscIn.sub {key : Int → Int} {a b a' b' : Nat} {d : Array Int} (h : AscIn key a b d) (ha : a ≤ a') (hb : b' ≤ b) : AscIn key a' b' d := fun i j h1 h2 h3 => h i j (by omega) h2 (by omega)
theorem AscIn.congr {key : Int → Int} {a b : Nat} {d d' : Array Int} (h : AscIn key a b d) (he : ∀ p, a ≤ p → p < b → d'[p]! = d[p]!) : AscIn key a b d' := fun i j h1 h2 h3 => by
  rw [he i h1 (by omega), he j (by omega) h3]
  exact h i j h1 h2 h3
theorem AscIn.le {key : Int → Int} {a b : Nat} {d : Array Int} (h : AscIn key a b d) {i j : Nat} (h1 : a ≤ i) (h2 : i ≤ j) (h3 : j < b) : key d[i]! ≤ key d[j]! := by
  by_cases e : i = j
  · subst e; omega
  · exact h i j h1 (by omega) h3
theorem AscIn.one {key : Int → Int} {a b : Nat} {d : Array Int} (h : b ≤ a + 1) : AscIn key a b d := fun i j h1 h2 h3 => by omega

/-- One element moves forward. -/
structure Fwd (a b k : Nat) (d dk : Array Int) : Prop where
  perm : PermIn a b d dk
  out : ∀ p, p < a ∨ k < p → dk[p]! = d[p]!
  at_ : dk[k]! = d[a]!
  low : ∀ p, a ≤ p → p < k → dk[p]! = d[p + 1]!
theorem Fwd.start (a b : Nat) (d : Array Int) : Fwd a b a d d := ⟨permIn_refl _ _ _, fun _ _ => rfl, rfl, fun p h1 h2 => by omega⟩
theorem Fwd.step {a b k : Nat} {d dk : Array Int} (h : Fwd a b k d dk) (ha : a ≤ k) (hk : k + 1 < b) (hb : b ≤ d.size) : Fwd a b (k + 1) d (swp dk k (k + 1)) := by
  have hs := h.perm.1
  have g := swp_get dk (show k < dk.size by omega) (show k + 1 < dk.size by omega)
  refine ⟨permIn_trans _ _ _ _ _ h.perm (swp_permIn _ _ _ _ _ ha (by omega) (by omega) hk (by omega)), fun p hp => ?_, ?_, fun p h1 h2 => ?_⟩
  · rw [g, if_neg (by omega), if_neg (by omega)]
    exact h.out p (by omega)
  · rw [g, if_pos rfl]; exact h.at_
  · rw [g, if_neg (by omega)]
    by_cases e : p = k
    · rw [if_pos e, e]; exact h.out _ (by omega)
    · rw [if_neg e]; exact h.low p h1 (by omega)
theorem Fwd.asc {key : Int → Int} {a b k i : Nat} {d dk : Array Int} (h : Fwd a b k d dk) (ha : a ≤ k) (hki : k + 1 = i) (hi : i ≤ b) (hd : AscIn key (a + 1) b d) (h1 : ∀ p, a + 1 ≤ p → p < i → key d[p]! < key d[a]!) (h2 : ∀ p, i ≤ p → p < b → key d[a]! ≤ key d[p]!) : AscIn key a b dk := by
  intro p q hp hpq hq
  have cl : ∀ x, a ≤ x → x < k → key dk[x]! < key d[a]! := fun x hx hxk => by rw [h.low x hx hxk]; exact h1 _ (by omega) (by omega)
  have ch : ∀ x, k < x → x < b → key d[a]! ≤ key dk[x]! := fun x hx hxb => by rw [h.out x (.inr hx)]; exact h2 _ (by omega) hxb
  rcases Nat.lt_trichotomy p k with e | e | e
  · rcases Nat.lt_trichotomy q k with f | f | f
    · rw [h.low p hp e, h.low q (by omega) f]; exact hd _ _ (by omega) (by omega) (by omega)
    · have := cl p hp e; rw [f, h.at_]; omega
    · have := cl p hp e; have := ch q f hq; omega
  · rw [e, h.at_]; exact ch q (by omega) hq
  · rw [h.out p (.inr e), h.out q (.inr (by omega))]; exact hd _ _ (by omega) hpq hq

/-- One element moves backward. -/
structure Bwd (a b m k : Nat) (d dk : Array Int) : Prop where
  perm : PermIn a b d dk
  out : ∀ p, p < k ∨ m < p → dk[p]! = d[p]!
  at_ : dk[k]! = d[m]!
  high : ∀ p, k < p → p ≤ m → dk[p]! = d[p - 1]!
theorem Bwd.start (a b m : Nat) (d : Array Int) : Bwd a b m m d d := ⟨permIn_refl _ _ _, fun _ _ => rfl, rfl, fun p h1 h2 => by omega⟩
theorem Bwd.step {a b m k : Nat} {d dk : Array Int} (h : Bwd a b m (k + 1) d dk) (ha : a ≤ k) (hk : k + 1 ≤ m) (hm : m < b) (hb : b ≤ d.size) : Bwd a b m k d (swp dk (k + 1) k) := by
  have hs := h.perm.1
  have g := swp_get dk (show k + 1 < dk.size by omega) (show k < dk.size by omega)
  refine ⟨permIn_trans _ _ _ _ _ h.perm (swp_permIn _ _ _ _ _ (by omega) (by omega) ha (by omega) (by omega)), fun p hp => ?_, ?_, fun p h1 h2 => ?_⟩
  · rw [g, if_neg (by omega), if_neg (by omega)]
    exact h.out p (by omega)
  · rw [g, if_pos rfl]; exact h.at_
  · rw [g, if_neg (by omega)]
    by_cases e : p = k + 1
    · rw [if_pos e, e]; exact h.out _ (by omega)
    · rw [if_neg e]; exact h.high p (by omega) h2
theorem Bwd.asc {key : Int → Int} {a b m k : Nat} {d dk : Array Int} (h : Bwd a b m k d dk) (hm : m + 1 = b) (hak : a ≤ k) (hk : k ≤ m) (hd : AscIn key a m d) (h1 : ∀ p, a ≤ p → p < k → key d[p]! ≤ key d[m]!) (h2 : ∀ p, k ≤ p → p < m → key d[m]! < key d[p]!) : AscIn key a b dk := by
  intro p q hp hpq hq
  have cl : ∀ x, a ≤ x → x < k → key dk[x]! ≤ key d[m]! := fun x hx hxk => by rw [h.out x (.inl hxk)]; exact h1 _ hx hxk
  have ch : ∀ x, k < x → x ≤ m → key d[m]! < key dk[x]! := fun x hx hxb => by rw [h.high x hx hxb]; exact h2 _ (by omega) (by omega)
  rcases Nat.lt_trichotomy q k with e | e | e
  · rw [h.out p (.inl (by omega)), h.out q (.inl e)]; exact hd _ _ hp hpq (by omega)
  · rw [e, h.at_]; exact cl p hp (by omega)
  · rcases Nat.lt_trichotomy p k with f | f | f
    · have := cl p hp f; have := ch q e (by omega); omega
    · have := ch q e (by omega); rw [f, h.at_]; omega
    · rw [h.high p f (by omega), h.high q e (by omega)]; exact hd _ _ (by omega) (by omega) (by omega)

/-- Two ranges have been exchanged, n places of them. -/
structure Exch (i j n : Nat) (d d' : Array Int) : Prop where
  size : d'.size = d.size
  left : ∀ p q, i ≤ p → p < i + n → q = j + (p - i) → d'[p]! = d[q]!
  right : ∀ p q, j ≤ p → p < j + n → q = i + (p - j) → d'[p]! = d[q]!
  out : ∀ p, (p < i ∨ i + n ≤ p) → (p < j ∨ j + n ≤ p) → d'[p]! = d[p]!
  perm : ∀ a b, a ≤ i → i + n ≤ b → a ≤ j → j + n ≤ b → b ≤ d.size → PermIn a b d d'
theorem Exch.start (i j : Nat) (d : Array Int) : Exch i j 0 d d := ⟨rfl, fun p q h1 h2 => by omega, fun p q h1 h2 => by omega, fun _ _ _ => rfl, fun a b _ _ _ _ _ => permIn_refl _ _ _⟩
theorem Exch.step {i j n : Nat} {d dk : Array Int} (h : Exch i j n d dk) (hij : i + n + 1 ≤ j) (hj : j + n < d.size) : Exch i j (n + 1) d (swp dk (i + n) (j + n)) := by
  have hs := h.size
  have g := swp_get dk (show i + n < dk.size by omega) (show j + n < dk.size by omega)
  refine ⟨by rw [swp_size]; exact hs, fun p q h1 h2 hq => ?_, fun p q h1 h2 hq => ?_, fun p h1 h2 => ?_, fun a b h1 h2 h3 h4 h5 => ?_⟩
  · rw [g, if_neg (by omega)]
    by_cases e : p = i + n
    · rw [if_pos e, h.out (j + n) (by omega) (by omega)]; congr 1; omega
    · rw [if_neg e]; exact h.left p q h1 (by omega) hq
  · by_cases e : p = j + n
    · rw [g, if_pos e, h.out (i + n) (by omega) (by omega)]; congr 1; omega
    · rw [g, if_neg e, if_neg (by omega)]; exact h.right p q h1 (by omega) hq
  · rw [g, if_neg (by omega), if_neg (by omega)]; exact h.out p (by omega) (by omega)
  · exact permIn_trans _ _ _ _ _ (h.perm a b h1 (by omega) h3 (by omega) h5) (swp_permIn _ _ _ _ _ (by omega) (by omega) (by omega) (by omega) (by omega))

/-- What is between a and m has changed places with what is between m and b. -/
structure Rot (a m b : Nat) (d d' : Array Int) : Prop where
  perm : PermIn a b d d'
  low : ∀ p q, a ≤ p → p < a + (b - m) → q = m + (p - a) → d'[p]! = d[q]!
  high : ∀ p q, a + (b - m) ≤ p → p < b → q = p - (b - m) → d'[p]! = d[q]!
/-- On the way to it: i and j places are still to be exchanged. -/
structure RotAt (a m b i j : Nat) (d dk : Array Int) : Prop where
  perm : PermIn a b d dk
  hi : a ≤ m - i
  him : i ≤ m
  hj : m + j ≤ b
  goal : ∀ d', PermIn a b d d' → (∀ p, p < m - i ∨ m + j ≤ p → d'[p]! = dk[p]!) → (∀ p q, m - i ≤ p → p < m - i + j → q = m + (p - (m - i)) → d'[p]! = dk[q]!) → (∀ p q, m - i + j ≤ p → p < m + j → q = p - j → d'[p]! = dk[q]!) → Rot a m b d d'
theorem RotAt.start {a m b : Nat} (h1 : a ≤ m) (h2 : m ≤ b) (d : Array Int) : RotAt a m b (m - a) (b - m) d d :=
  ⟨permIn_refl _ _ _, by omega, by omega, by omega, fun d' hp _ hl hh => ⟨hp, fun p q p1 p2 hq => hl p q (by omega) (by omega) (by omega), fun p q p1 p2 hq => hh p q (by omega) (by omega) (by omega)⟩⟩
theorem RotAt.more {a m b i j : Nat} {d dk dn : Array Int} (h : RotAt a m b i j d dk) (hj0 : 0 < j) (hij : j < i) (hb : b ≤ d.size) (hx : Exch (m - i) m j dk dn) : RotAt a m b (i - j) j d dn := by
  obtain ⟨p1, p2, p3, p4, p5⟩ := h
  have hs := p1.1
  refine ⟨permIn_trans _ _ _ _ _ p1 (hx.perm a b (by omega) (by omega) (by omega) (by omega) (by omega)), by omega, by omega, by omega, fun d' hp ho hl hh => p5 d' hp (fun p hpo => ?_) (fun p q q1 q2 hq => ?_) (fun p q q1 q2 hq => ?_)⟩
  · rw [ho p (by omega)]; exact hx.out p (by omega) (by omega)
  · rw [ho p (by omega)]; exact hx.left p q (by omega) (by omega) (by omega)
  · by_cases e : p < m - i + j + j
    · rw [hl p (p - (m - i + j) + m) (by omega) (by omega) (by omega)]; exact hx.right _ q (by omega) (by omega) (by omega)
    · rw [hh p q (by omega) (by omega) (by omega)]; exact hx.out q (by omega) (by omega)
theorem RotAt.less {a m b i j : Nat} {d dk dn : Array Int} (h : RotAt a m b i j d dk) (hi0 : 0 < i) (hij : i < j) (hb : b ≤ d.size) (hx : Exch (m - i) (m + j - i) i dk dn) : RotAt a m b i (j - i) d dn := by
  obtain ⟨p1, p2, p3, p4, p5⟩ := h
  have hs := p1.1
  refine ⟨permIn_trans _ _ _ _ _ p1 (hx.perm a b (by omega) (by omega) (by omega) (by omega) (by omega)), by omega, by omega, by omega, fun d' hp ho hl hh => p5 d' hp (fun p hpo => ?_) (fun p q q1 q2 hq => ?_) (fun p q q1 q2 hq => ?_)⟩
  · rw [ho p (by omega)]; exact hx.out p (by omega) (by omega)
  · by_cases e : p < m - i + (j - i)
    · rw [hl p q (by omega) (by omega) (by omega)]; exact hx.out q (by omega) (by omega)
    · rw [hh p (p - (j - i)) (by omega) (by omega) (by omega)]; exact hx.left _ q (by omega) (by omega) (by omega)
  · by_cases e : p < m + (j - i)
    · omega
    · rw [ho p (by omega)]; exact hx.right p q (by omega) (by omega) (by omega)
theorem RotAt.last {a m b i : Nat} {d dk dn : Array Int} (h : RotAt a m b i i d dk) (hb : b ≤ d.size) (hx : Exch (m - i) m i dk dn) : Rot a m b d dn := by
  obtain ⟨p1, p2, p3, p4, p5⟩ := h
  have hs := p1.1
  exact p5 dn (permIn_trans _ _ _ _ _ p1 (hx.perm a b (by omega) (by omega) (by omega) (by omega) (by omega))) (fun p hp => hx.out p (by omega) (by omega)) (fun p q q1 q2 hq => hx.left p q (by omega) (by omega) (by omega)) (fun p q q1 q2 hq => hx.right p q (by omega) (by omega) (by omega))
theorem rot_refl {a m b : Nat} {d : Array Int} (h1 : a ≤ m) (h2 : m ≤ b) (h : a = m ∨ m = b) : Rot a m b d d :=
  ⟨permIn_refl _ _ _, fun p q p1 p2 hq => by congr 1; omega, fun p q p1 p2 hq => by congr 1; omega⟩

/-- What a merge is handed: the place of the middle, the bounds of the search. -/
structure Sym (a m b mid s : Nat) : Prop where
  am : a < m
  mb : m < b
  hm : 2 * mid = a + b ∨ 2 * mid + 1 = a + b
  lo : a ≤ s
  sm : s ≤ mid
  sm' : s ≤ m
  e1 : m ≤ mid + m - s
  e2 : mid ≤ mid + m - s
  e3 : mid + m - s ≤ b
/-- The search's own bounds. -/
def symLo (a m b mid : Nat) : Nat := if mid < m then mid + m - b else a
def symHi (m mid : Nat) : Nat := if mid < m then mid else m
theorem sym_of {a m b mid s : Nat} (h1 : a < m) (h2 : m < b) (hm : 2 * mid = a + b ∨ 2 * mid + 1 = a + b) (l : symLo a m b mid ≤ s) (r : s ≤ symHi m mid) : Sym a m b mid s := by
  unfold symLo at l
  unfold symHi at r
  split at l <;> split at r <;> first | omega | exact ⟨h1, h2, hm, by omega, by omega, by omega, by omega, by omega, by omega⟩
theorem sym_lo_hi {a m b mid : Nat} (h1 : a < m) (h2 : m < b) (hm : 2 * mid = a + b ∨ 2 * mid + 1 = a + b) : symLo a m b mid ≤ symHi m mid := by
  unfold symLo symHi
  split <;> omega
theorem sym_c {a m b mid c : Nat} (h1 : a < m) (h2 : m < b) (hm : 2 * mid = a + b ∨ 2 * mid + 1 = a + b) (l : symLo a m b mid ≤ c) (r : c < symHi m mid) : a ≤ c ∧ c < m ∧ c + 1 ≤ mid + m ∧ m ≤ mid + m - 1 - c ∧ mid + m - 1 - c < b := by
  unfold symLo at l
  unfold symHi at r
  split at l <;> split at r <;> omega
/-- What the search has found so far. -/
structure SymAt (key : Int → Int) (a m b mid l r : Nat) (d : Array Int) : Prop where
  lr : l ≤ r
  lo : symLo a m b mid ≤ l
  hi : r ≤ symHi m mid
  below : l = symLo a m b mid ∨ ∃ c, c + 1 = l ∧ symLo a m b mid ≤ c ∧ key d[c]! ≤ key d[mid + m - 1 - c]!
  above : r = symHi m mid ∨ (r < symHi m mid ∧ key d[mid + m - 1 - r]! < key d[r]!)
theorem SymAt.start {key : Int → Int} {a m b mid : Nat} {d : Array Int} (h1 : a < m) (h2 : m < b) (hm : 2 * mid = a + b ∨ 2 * mid + 1 = a + b) : SymAt key a m b mid (symLo a m b mid) (symHi m mid) d :=
  ⟨sym_lo_hi h1 h2 hm, Nat.le_refl _, Nat.le_refl _, .inl rfl, .inl rfl⟩
theorem SymAt.up {key : Int → Int} {a m b mid l r c : Nat} {d : Array Int} (h : SymAt key a m b mid l r d) (h1 : l ≤ c) (h2 : c < r) (hk : key d[c]! ≤ key d[mid + m - 1 - c]!) : SymAt key a m b mid (c + 1) r d :=
  ⟨by omega, by have := h.lo; omega, h.hi, .inr ⟨c, rfl, by have := h.lo; omega, hk⟩, h.above⟩
theorem SymAt.down {key : Int → Int} {a m b mid l r c : Nat} {d : Array Int} (h : SymAt key a m b mid l r d) (h1 : l ≤ c) (h2 : c < r) (hk : key d[mid + m - 1 - c]! < key d[c]!) : SymAt key a m b mid l c d :=
  ⟨h1, h.lo, by have := h.hi; omega, h.below, .inr ⟨by have := h.hi; omega, hk⟩⟩
/-- The two facts that make the merge. -/
theorem SymAt.ends {key : Int → Int} {a m b mid s : Nat} {d : Array Int} (h : SymAt key a m b mid s s d) (h1 : a < m) (h2 : m < b) (hm : 2 * mid = a + b ∨ 2 * mid + 1 = a + b) (hl : AscIn key a m d) (hr : AscIn key m b d) :
    (∀ p q, a ≤ p → p < s → mid + m - s ≤ q → q < b → key d[p]! ≤ key d[q]!) ∧ (∀ p q, m ≤ p → p < mid + m - s → s ≤ q → q < m → key d[p]! ≤ key d[q]!) := by
  have hy := sym_of h1 h2 hm h.lo h.hi
  obtain ⟨_, _, _, y1, y2, y3, y4, y5, y6⟩ := hy
  constructor
  · intro p q p1 p2 q1 q2
    rcases h.below with e | ⟨c, rfl, hc, hk⟩
    · unfold symLo at e
      split at e <;> omega
    · have hcc := sym_c h1 h2 hm hc (by have := h.hi; omega)
      have k1 := hl.le p1 (show p ≤ c by omega) hcc.2.1
      have k2 := hr.le (show m ≤ mid + m - 1 - c by omega) (show mid + m - 1 - c ≤ q by omega) q2
      omega
  · intro p q p1 p2 q1 q2
    rcases h.above with e | ⟨e, hk⟩
    · unfold symHi at e
      split at e <;> omega
    · have hcc := sym_c h1 h2 hm h.lo e
      have k1 := hr.le p1 (show p ≤ mid + m - 1 - s by omega) (by omega)
      have k2 := hl.le hcc.1 q1 q2
      omega
/-- Behind the rotation. -/
structure Half (key : Int → Int) (a m b mid s : Nat) (d : Array Int) : Prop where
  q1 : AscIn key a s d
  q2 : AscIn key s mid d
  q3 : AscIn key mid (mid + m - s) d
  q4 : AscIn key (mid + m - s) b d
  cross : ∀ p q, a ≤ p → p < mid → mid ≤ q → q < b → key d[p]! ≤ key d[q]!
theorem half_of {key : Int → Int} {a m b mid s : Nat} {d d1 : Array Int} (hy : Sym a m b mid s) (hl : AscIn key a m d) (hr : AscIn key m b d)
    (f1 : ∀ p q, a ≤ p → p < s → mid + m - s ≤ q → q < b → key d[p]! ≤ key d[q]!) (f2 : ∀ p q, m ≤ p → p < mid + m - s → s ≤ q → q < m → key d[p]! ≤ key d[q]!) (h : Rot s m (mid + m - s) d d1) : Half key a m b mid s d1 := by
  obtain ⟨_, _, _, y1, y2, y3, y4, y5, y6⟩ := hy
  have o := h.perm.2.1
  have lo : ∀ p, s ≤ p → p < mid → d1[p]! = d[m + (p - s)]! := fun p p1 p2 => h.low p _ p1 (by omega) rfl
  have hi : ∀ p, mid ≤ p → p < mid + m - s → d1[p]! = d[s + (p - mid)]! := fun p p1 p2 => h.high p _ (by omega) p2 (by omega)
  refine ⟨(hl.sub (Nat.le_refl _) y3).congr fun p p1 p2 => o p (.inl p2), fun p q p1 pq q2 => ?_, fun p q p1 pq q2 => ?_, (hr.sub (by omega) (Nat.le_refl _)).congr fun p p1 p2 => o p (.inr p1), fun p q p1 p2 q1 q2 => ?_⟩
  · rw [lo p p1 (by omega), lo q (by omega) q2]; exact hr _ _ (by omega) (by omega) (by omega)
  · rw [hi p p1 (by omega), hi q (by omega) q2]; exact hl _ _ (by omega) (by omega) (by omega)
  · by_cases e1 : p < s
    · rw [o p (.inl e1)]
      by_cases e2 : q < mid + m - s
      · rw [hi q q1 e2]; exact hl.le p1 (by omega) (by omega)
      · rw [o q (.inr (by omega))]; exact f1 p q p1 e1 (by omega) q2
    · rw [lo p (by omega) p2]
      by_cases e2 : q < mid + m - s
      · rw [hi q q1 e2]; exact f2 _ _ (by omega) (by omega) (by omega) (by omega)
      · rw [o q (.inr (by omega))]; exact hr.le (by omega) (by omega) q2
/-- Both halves sorted. -/
theorem Half.asc {key : Int → Int} {a m b mid s : Nat} {d1 d2 d3 : Array Int} (h : Half key a m b mid s d1) (hb : b ≤ d1.size) (ham : a ≤ mid) (hmb : mid ≤ b) (p2 : PermIn a mid d1 d2) (a2 : AscIn key a mid d2) (p3 : PermIn mid b d2 d3) (a3 : AscIn key mid b d3) : AscIn key a b d3 := by
  have hs := p2.1
  have c2 : ∀ p q, a ≤ p → p < mid → mid ≤ q → q < b → key d2[p]! ≤ key d2[q]! := fun p q h1 h2 h3 h4 => by
    rw [p2.2.1 q (.inr h3)]
    exact permIn_all d1 d2 a mid (fun x => key x ≤ key d1[q]!) (by omega) p2 (fun i i1 i2 => h.cross i q i1 i2 h3 h4) p h1 h2
  have c3 : ∀ p q, a ≤ p → p < mid → mid ≤ q → q < b → key d3[p]! ≤ key d3[q]! := fun p q h1 h2 h3 h4 => by
    rw [p3.2.1 p (.inl h2)]
    exact permIn_all d2 d3 mid b (fun x => key d2[p]! ≤ key x) (by omega) p3 (fun i i1 i2 => c2 p i h1 h2 i1 i2) q h3 h4
  intro i j h1 h2 h3
  by_cases e1 : j < mid
  · rw [p3.2.1 i (.inl (by omega)), p3.2.1 j (.inl e1)]; exact a2 i j h1 h2 e1
  · by_cases e2 : i < mid
    · exact c3 i j h1 e2 (by omega) h3
    · exact a3 i j (by omega) h2 h3

/-- The blocks of a length, from a place on. -/
def Blocks (key : Int → Int) (a bs n : Nat) (d : Array Int) : Prop := ∀ k, AscIn key (a + k * bs) (min (a + (k + 1) * bs) n) d
/-- The blocks up to the c-th. -/
def Done (key : Int → Int) (c bs : Nat) (d : Array Int) : Prop := ∀ k, k < c → AscIn key (k * bs) ((k + 1) * bs) d
theorem Blocks.whole {key : Int → Int} {bs n : Nat} {d : Array Int} (h : Blocks key 0 bs n d) (hn : n ≤ bs) : AscIn key 0 n d := by
  have := h 0
  simp only [Nat.zero_mul, Nat.zero_add, Nat.one_mul] at this
  exact this.sub (Nat.le_refl _) (by omega)
theorem Done.zero {key : Int → Int} {bs : Nat} {d : Array Int} : Done key 0 bs d := fun k hk => by omega
theorem Done.next {key : Int → Int} {c bs : Nat} {d d' : Array Int} (h : Done key c bs d) (hp : PermIn (c * bs) ((c + 1) * bs) d d') (ha : AscIn key (c * bs) ((c + 1) * bs) d') : Done key (c + 1) bs d' := fun k hk => by
  by_cases e : k = c
  · subst e; exact ha
  · refine (h k (by omega)).congr fun p p1 p2 => hp.2.1 p (.inl ?_)
    have : (k + 1) * bs ≤ c * bs := Nat.mul_le_mul_right _ (by omega)
    omega
theorem Done.congr {key : Int → Int} {c bs : Nat} {d d' : Array Int} (h : Done key c bs d) {lo hi : Nat} (hp : PermIn lo hi d d') (hl : c * bs ≤ lo) : Done key c bs d' := fun k hk => by
  refine (h k hk).congr fun p p1 p2 => hp.2.1 p (.inl ?_)
  have : (k + 1) * bs ≤ c * bs := Nat.mul_le_mul_right _ (by omega)
  omega
/-- What lies behind the last whole block is sorted, too. -/
theorem Done.blocks {key : Int → Int} {c bs n : Nat} {d : Array Int} (h : Done key c bs d) (hc : c * bs ≤ n) (hn : n < (c + 1) * bs) (ht : AscIn key (c * bs) n d) : Blocks key 0 bs n d := fun k => by
  rw [Nat.zero_add, Nat.zero_add]
  rcases Nat.lt_trichotomy k c with e | e | e
  · exact (h k e).sub (Nat.le_refl _) (by omega)
  · subst e; exact ht.sub (Nat.le_refl _) (by omega)
  · have : (c + 1) * bs ≤ k * bs := Nat.mul_le_mul_right _ (by omega)
    exact AscIn.one (by omega)
theorem Blocks.congr {key : Int → Int} {a a' bs n lo hi : Nat} {d d' : Array Int} (h : Blocks key a bs n d) (hp : PermIn lo hi d d') (ha : a' = a + 2 * bs) (hh : hi ≤ a') : Blocks key a' bs n d' := fun k => by
  have e1 : (k + 2) * bs = k * bs + 2 * bs := Nat.add_mul _ _ _
  have e2 : (k + 2 + 1) * bs = (k + 1) * bs + 2 * bs := by rw [show k + 2 + 1 = (k + 1) + 2 by omega]; exact Nat.add_mul _ _ _
  have := h (k + 2)
  rw [e1, e2] at this
  subst ha
  refine AscIn.congr (this.sub (by omega) (by omega)) fun p p1 p2 => hp.2.1 p (.inr (by omega))
theorem Blocks.first {key : Int → Int} {a bs n : Nat} {d : Array Int} (h : Blocks key a bs n d) (hn : a + bs ≤ n) : AscIn key a (a + bs) d := by
  have := h 0
  simp only [Nat.zero_mul, Nat.add_zero, Nat.zero_add, Nat.one_mul] at this
  exact this.sub (Nat.le_refl _) (by omega)
theorem Blocks.second {key : Int → Int} {a bs n b : Nat} {d : Array Int} (h : Blocks key a bs n d) (hb : b ≤ n) (hb2 : b ≤ a + 2 * bs) : AscIn key (a + bs) b d := by
  have := h 1
  simp only [Nat.one_mul] at this
  exact this.sub (Nat.le_refl _) (by omega)
theorem Blocks.tail {key : Int → Int} {a bs n : Nat} {d : Array Int} (h : Blocks key a bs n d) (hn : n ≤ a + bs) : AscIn key a n d := by
  have := h 0
  simp only [Nat.zero_mul, Nat.add_zero, Nat.zero_add, Nat.one_mul] at this
  exact this.sub (Nat.le_refl _) (by omega)
end Go.Proofs.Ytefonhnidkfbgaa

namespace Go.Proofs.Ytefonhnidkfbgaa
open Go.RowKit Go.Sort
set_option linter.unusedVariables false
set_option linter.unusedSimpArgs false

/-- A row of integers. -/
abbrev rowI (d : Array Int) : Obj := .cells (d.map (Value.int .i64)) 3 (0, 0)
/-- A world in which nothing that was there but the row g has changed; the row holds d. -/
abbrev RowX (w0 : World) (g : Nat) (d : Array Int) : Type := HeldX w0 g [(g, rowI d)]
theorem RowX.cell {w0 : World} {g : Nat} {d : Array Int} (s : RowX w0 g d) {i : Nat} (hi : i < d.size) : s.w.cell? ⟨g, i, none⟩ = some (.int .i64 d[i]!) := by
  rw [cell_of (s.blocks (g, rowI d) List.mem_cons_self)]
  simp [getElem!_pos d i hi, hi]
theorem RowX.free {w0 : World} {g : Nat} {d : Array Int} (s : RowX w0 g d) (i : Nat) : s.w.frozen? ⟨g, i, none⟩ = false := free_of (s.blocks (g, rowI d) List.mem_cons_self) i
/-- Behind the first store of an exchange the second place still holds something. -/
theorem RowX.cell2 {w0 : World} {g : Nat} {d : Array Int} (s : RowX w0 g d) {i j : Nat} (hi : i < d.size) (hj : j < d.size) (v : Value) : ∃ u, (s.w.setCell ⟨g, i, none⟩ v).cell? ⟨g, j, none⟩ = some u := by
  by_cases e : i = j
  · subst e; exact ⟨v, World.cell?_setCell_same _ _ _ (s.cell hi)⟩
  · exact ⟨_, (World.cell?_setCell_other _ _ _ _ (by intro e'; simp only [Addr.mk.injEq] at e'; omega)).trans (s.cell hj)⟩
def RowX.put {w0 : World} {g : Nat} {d : Array Int} (s : RowX w0 g d) (i : Nat) (x : Int) : RowX w0 g (d.setIfInBounds i x) :=
  HeldX.store (i := i) (v := .int .i64 x) s (.inl rfl) (by simp) (by simp)
theorem RowX.exch {w0 : World} {g : Nat} {d : Array Int} (s : RowX w0 g d) (i j : Nat) : ∃ s' : RowX w0 g (swp d i j), (s.w.setCell ⟨g, i, none⟩ (.int .i64 d[j]!)).setCell ⟨g, j, none⟩ (.int .i64 d[i]!) = s'.w := ⟨(s.put i d[j]!).put j d[i]!, rfl⟩

def cmpI (a b : Int) : Int := if a < b then -1 else if b < a then 1 else 0
theorem cmpI_lt (a b : Int) : decide (cmpI a b < 0) = decide (a < b) := by
  unfold cmpI
  split
  · simp [*]
  · split <;> simp [*]
def AllE (E : Int → Prop) (d : Array Int) : Prop := ∀ i, i < d.size → E d[i]!
theorem AllE.perm {E : Int → Prop} {a b : Nat} {d d' : Array Int} (h : AllE E d) (hb : b ≤ d.size) (hp : PermIn a b d d') : AllE E d' := fun i hi => by
  have hs := hp.1
  by_cases h1 : i < a ∨ b ≤ i
  · rw [hp.2.1 i h1]; exact h i (by omega)
  · exact permIn_all d d' a b E hb hp (fun k k1 k2 => h k (by omega)) i (by omega) (by omega)
/-- What is asked of the comparison. -/
structure CmpX (w0 : World) (g N : Nat) (cb : Nat) (lb : Array Value) (key : Int → Int) (E : Int → Prop) : Prop where
  enters : ∀ args w, (callFunc cb args).run Try.prog w = .ok (.enter cb args) w
  calls : ∀ (d : Array Int) (s : RowX w0 g d), d.size = N → ∀ x y, E x → E y → Calls Try.prog cb (#[.int .i64 x, .int .i64 y] ++ lb) s.w (Gives (.int .i64 (cmpI (key x) (key y))) s.w)

theorem insInner_stop {lt : Int → Int → Bool} {a j : Nat} {d : Array Int} (h : j ≤ a ∨ lt d[j]! d[j - 1]! = false) : insInner lt a j d = d := by
  cases j with
  | zero => rfl
  | succ j =>
    show (if _ then _ else _) = d
    rw [if_neg]
    simp only [Bool.and_eq_true, decide_eq_true_eq]
    intro ⟨h1, h2⟩
    rcases h with h | h
    · omega
    · rw [Nat.add_sub_cancel] at h; rw [h] at h2; cases h2
theorem insInner_go {lt : Int → Int → Bool} {a j : Nat} {d : Array Int} (h1 : a < j + 1) (h : lt d[j + 1]! d[j]! = true) : insInner lt a (j + 1) d = insInner lt a j (swp d (j + 1) j) := by
  show (if _ then _ else _) = _
  rw [if_pos]
  simp [h]; omega
theorem insOuter_go {lt : Int → Int → Bool} {a b i : Nat} {d : Array Int} (h : i < b) : insOuter lt a b i d = insOuter lt a b (i + 1) (insInner lt a i d) := by
  rw [insOuter, if_pos h]
theorem insOuter_stop {lt : Int → Int → Bool} {a b i : Nat} {d : Array Int} (h : ¬ i < b) : insOuter lt a b i d = d := by
  rw [insOuter, if_neg h]

end Go.Proofs.Ytefonhnidkfbgaa

namespace Go.Proofs.Ytefonhnidkfbgaa
open Go.RowKit Go.Sort
set_option linter.unusedVariables false
set_option linter.unusedSimpArgs false

/-- What a merge gives. -/
def MergePost (key : Int → Int) (w0 : World) (g a b : Nat) (d : Array Int) (e : Ending) (w' : World) : Prop := e = .returned (.tuple #[]) ∧ ∃ d', PermIn a b d d' ∧ AscIn key a b d' ∧ ∃ s' : RowX w0 g d', w' = s'.w

end Go.Proofs.Ytefonhnidkfbgaa

namespace Go.Proofs.Ytefonhnidkfbgaa
open Go.RowKit Go.Sort
set_option linter.unusedVariables false
set_option linter.unusedSimpArgs false

end Go.Proofs.Ytefonhnidkfbgaa

namespace Go.Proofs.Ytefonhnidkfbgaa
open Go.RowKit Go.Sort
set_option linter.unusedVariables false
set_option linter.unusedSimpArgs false

theorem Blocks.start {key : Int → Int} {bs n : Nat} {d : Array Int} (h : Blocks key 0 bs n d) : Blocks key (0 * (2 * bs)) bs n d := by rw [Nat.zero_mul]; exact h
/-- One pair of blocks is merged. -/
theorem blocks_merge {key : Int → Int} {c bs n : Nat} {d d' : Array Int} (hd : Done key c (2 * bs) d) (hb : Blocks key (c * (2 * bs)) bs n d) (hp : PermIn (c * (2 * bs)) ((c + 1) * (2 * bs)) d d') (ha : AscIn key (c * (2 * bs)) ((c + 1) * (2 * bs)) d') :
    Done key (c + 1) (2 * bs) d' ∧ Blocks key ((c + 1) * (2 * bs)) bs n d' :=
  ⟨hd.next hp ha, hb.congr hp (by rw [Nat.add_mul]; omega) (Nat.le_refl _)⟩

end Go.Proofs.Ytefonhnidkfbgaa

/- The order of commands by their targets: cmp.Compare, the closure of order, order. -/
namespace Go.Proofs.Ytefonhnidkfbgaa
open Go.RowKit Go.Sort
set_option linter.unusedVariables false
set_option linter.unusedSimpArgs false

theorem CmdsIn.W {w : World} {ca : Option Addr} {cs : List Cmd} {ccap : Nat} (h : CmdsIn w ca cs ccap) {bs : List (Nat × Obj)} (s : HeldW w bs) : CmdsIn s.w ca cs ccap := h.below s.below
/-- A boxed slice of commands; what it holds, in every world of a class. -/
abbrev boxL (ca : Option Addr) (L ccap : Nat) : Obj := .cells #[.slice ca L ccap] 25 (0, 0)
def keyT (cs : List Cmd) (z : Int) : Int := ((cs[z.toNat]?).map Cmd.t).getD 0
theorem keyT_at {cs : List Cmd} {i : Nat} {c : Cmd} (h : cs[i]? = some c) : keyT cs i = c.t := by simp [keyT, h]

theorem made_zeroI (k : Nat) : madeCells (Value.int .i64 0).cells (k * 1) = (Array.replicate k (0 : Int)).map (Value.int .i64) := by
  apply Array.ext_getElem?
  intro i
  unfold madeCells
  rw [Nat.mul_one]
  by_cases h : i < k
  · simp [h, Value.cells, Nat.mod_one]
  · simp [h]
theorem make_ints (k : Nat) (hk : k ≤ 1000000) (w : World) : (Instr.makeSlice 96 (.int .i64 (k : Int)) (.int .i64 (k : Int))).run Try.prog w = .ok (.slice (some ⟨w.heap.size, 0, none⟩) k k) (w.alloc (rowI (Array.replicate k 0))) := by
  have hi : ∃ i, Try.prog.info? 3 = some i ∧ i.zero = some (.int .i64 0) ∧ i.size = 1 ∧ i.bytes = 8 := by
    have h : (Try.prog.info? 3).map (fun i => (i.zero, i.size, i.bytes)) = some (some (.int .i64 0), 1, 8) := by kernel_rfl
    obtain ⟨i, hi, he⟩ := Option.map_eq_some_iff.1 h
    simp only [Prod.mk.injEq] at he
    exact ⟨i, hi, he.1, he.2.1, he.2.2⟩
  obtain ⟨i, hi, hz, hs, hb⟩ := hi
  rw [run_make w 96 3 i _ Try.underlying96 hi hz .i64 .i64 k k (by omega) (by omega) (by rw [hb]; omega) (by omega)]
  rw [hs, Int.toNat_natCast, made_zeroI]

/-- The indices of commands in ascending order of their targets. -/
structure IsOrder (cs : List Cmd) (idx : Array Int) : Prop where
  size : idx.size = cs.length
  perm : idx.toList.Perm ((List.range cs.length).map (fun i : Nat => (i : Int)))
  asc : AscIn (keyT cs) 0 cs.length idx
def OrderPost (cs : List Cmd) (w : World) (e : Ending) (w' : World) : Prop :=
  ∃ (g : Nat) (idx : Array Int), e = .returned (.slice (some ⟨g, 0, none⟩) cs.length cs.length) ∧ w.heap.size ≤ g ∧ w'.heap[g]? = some (rowI idx) ∧ Below w.heap.size w w' ∧ IsOrder cs idx

/-- A filled row. -/
theorem filled {L : Nat} {dk : Array Int} (hs : dk.size = L) (h : ∀ i, i < L → dk[i]! = (i : Int)) : dk.toList = (List.range L).map (fun i : Nat => (i : Int)) := by
  apply List.ext_getElem
  · simp [hs]
  · intro i h1 h2
    have hi : i < dk.size := by simpa using h1
    have := h i (by omega)
    rw [getElem!_pos dk i hi] at this
    simpa using this
theorem permIn_whole {L : Nat} {d d' : Array Int} (h : PermIn 0 L d d') (hs : d.size = L) : d'.toList.Perm d.toList := by
  have h2 := h.2.2
  have e1 : d'.extract 0 L = d' := by rw [← hs, ← h.1]; simp
  have e2 : d.extract 0 L = d := by rw [← hs]; simp
  rwa [e1, e2] at h2

end Go.Proofs.Ytefonhnidkfbgaa

/- The functions count, pieces and Split of package extent: what they return at every valid extent and every size. -/
namespace Go.Proofs.Ytefonhnidkfbgaa
open Go.RowKit Go.Shelf Go.Proofs.Ytefonhnidkfbgaa.Plain01
attribute [local go_sem] Oper.semAt_some

theorem ret_int {k : IntKind} {a b : Int} (h : a = b) : Ending.returned (.int k a) = .returned (.int k b) := by rw [h]

/-- What has come when k rounds are over. -/
def upto {α : Type} (f : Nat → α) (k : Nat) : List α := (List.range k).map f
theorem upto_succ {α : Type} (f : Nat → α) (k : Nat) : upto f (k + 1) = upto f k ++ [f k] := by simp [upto, List.range_succ]
theorem upto_length {α : Type} (f : Nat → α) (k : Nat) : (upto f k).length = k := by simp [upto]

/-- What a round that goes on keeps: the two captured boxes. -/
def KpBoxes (Be Bs : Nat) (A B : World) : Prop := B.heap[Be]? = A.heap[Be]? ∧ B.heap[Bs]? = A.heap[Bs]?

end Go.Proofs.Ytefonhnidkfbgaa

/- Split of package extent: the pieces, in a slice of its own, at every valid extent and every size. -/
namespace Go.Proofs.Ytefonhnidkfbgaa
open Go.RowKit Go.Shelf Go.Proofs.Ytefonhnidkfbgaa.Plain01
attribute [local go_sem] Oper.semAt_some

theorem KpBoxes.trans {Be Bs : Nat} {A B C : World} (h : KpBoxes Be Bs A B) (k : KpBoxes Be Bs B C) : KpBoxes Be Bs A C := ⟨k.1.trans h.1, k.2.trans h.2⟩

/-- The cells of a list of extents. -/
def extCells (l : List (Int × Int)) : List Value := l.flatMap fun x => [.int .i64 x.1, .int .i64 x.2]
theorem extCells_snoc (l : List (Int × Int)) (x : Int × Int) : extCells (l ++ [x]) = extCells l ++ [.int .i64 x.1, .int .i64 x.2] := by simp [extCells]

/-- The first of two new blocks, behind a growth that writes no row. -/
theorem first_kept {w w1 : World} {o0 o1 : Obj} (h : ((w.alloc o0).alloc o1).grownBy w1 none) : w1.heap[w.heap.size]? = some o0 :=
  (h.block _ (by simp; omega) (by simp)).trans ((Below.heap_alloc _ _ _ (by simp)).trans (World.alloc_heap_new w _))

/-- Three new blocks. -/
theorem three_new (w : World) (o0 : Obj) (o1 o2 : Obj) : (((w.alloc o0).alloc o1).alloc o2).heap.size = w.heap.size + 3 ∧ (((w.alloc o0).alloc o1).alloc o2).heap[w.heap.size + 1]? = some o1 ∧ (((w.alloc o0).alloc o1).alloc o2).heap[w.heap.size + 1 + 1]? = some o2 ∧ Below w.heap.size w (((w.alloc o0).alloc o1).alloc o2) := by
  refine ⟨by simp, ?_, ?_, (((Below.refl _ w).alloc (Nat.le_refl _) _).alloc (by simp) _).alloc (by simp; omega) _⟩
  · refine (Below.heap_alloc _ _ _ (by simp)).trans ?_
    have := World.alloc_heap_new (w.alloc o0) o1
    rwa [World.size_alloc] at this
  · have := World.alloc_heap_new ((w.alloc o0).alloc o1) o2
    rwa [World.size_alloc, World.size_alloc] at this

theorem two_new_cells (W : World) (a b : Value) (t : TypeId) : ∀ (j : Nat) (u : Value), [a, b][j]? = some u → (W.alloc (.cells #[a, b] t)).cell? ((⟨W.heap.size, 0, none⟩ : Addr).add j) = some u := by
  intro j u h
  have e : (⟨W.heap.size, 0, none⟩ : Addr).add j = ⟨W.heap.size, j, none⟩ := by simp [Addr.add]; omega
  rw [e, World.cell?_alloc_mark]
  simpa using h

theorem size_ownFrom {β : Type} (B m : Nat) : OwnFrom B (fun (_ : β) W => m ≤ W.heap.size) := fun _ _ _ _ hs hg _ => Nat.le_trans hs hg.size

theorem KpBoxes.refl (Be Bs : Nat) (A : World) : KpBoxes Be Bs A A := ⟨rfl, rfl⟩
theorem kpBoxes_alloc {Be Bs : Nat} {A : World} (h1 : Be < A.heap.size) (h2 : Bs < A.heap.size) (o : Obj) : KpBoxes Be Bs A (A.alloc o) := ⟨Below.heap_alloc _ _ _ h1, Below.heap_alloc _ _ _ h2⟩
/-- A growth that writes another row, then a store into another block. -/
theorem kpBoxes_grown_set {Be Bs g B : Nat} {A A' : World} (h1 : Be < A.heap.size) (h2 : Bs < A.heap.size) (hg : A.grownBy A' (some g)) (e1 : Be ≠ g) (e2 : Bs ≠ g) (e3 : Be ≠ B) (e4 : Bs ≠ B) (v : Value) : KpBoxes Be Bs A (A'.setCell ⟨B, 0, none⟩ v) :=
  ⟨(Below.heap_setCell _ _ _ _ e3).trans (hg.block _ h1 (by simpa using e1)), (Below.heap_setCell _ _ _ _ e4).trans (hg.block _ h2 (by simpa using e2))⟩

theorem cells_own {β : Type} (B : Nat) (cs : Array Value) (t : TypeId) : Own (fun (_ : β) W => W.heap[B]? = some (.cells cs t (0, 0))) := fun s X Y row hs hg hrow =>
  (hg.block B (Array.getElem?_eq_some_iff.1 hs).1 (fun e => by obtain ⟨o, ho, hc⟩ := hrow B e.symm; rw [hs] at ho; cases ho; cases hc)).trans hs

theorem kpBoxes_put {Be Bs : Nat} {w : World} (h1 : Be < w.heap.size) (h2 : Bs < w.heap.size) (W : World) (l : Nat) (o o' : Obj) (hl : w.heap.size ≤ l) (_ : W.heap[l]? = some o) (_ : o.isCells = false) (_ : o.isWalk = false) : KpBoxes Be Bs W (W.putObj l o') :=
  ⟨World.putObj_heap_other (by omega), World.putObj_heap_other (by omega)⟩

end Go.Proofs.Ytefonhnidkfbgaa

/- The targets of the first commands in ascending order: the iterator. -/
namespace Go.Proofs.Ytefonhnidkfbgaa
open Go.RowKit Go.Shelf Go.Proofs.Ytefonhnidkfbgaa.Plain01
attribute [local go_sem] Oper.semAt_some
set_option linter.unusedVariables false
set_option linter.unusedSimpArgs false

/-- The targets of the commands whose indices are listed and less than m. -/
def tgtAt (cs : List Cmd) (z : Int) : Int × Int := ((cs[z.toNat]?).map Cmd.tgt).getD (0, 0)
def selL (cs : List Cmd) (m : Int) (zs : List Int) : List (Int × Int) := (zs.filter fun z => decide (z < m)).map (tgtAt cs)
theorem tgtAt_at {cs : List Cmd} {i : Nat} {c : Cmd} (h : cs[i]? = some c) : tgtAt cs i = c.tgt := by simp [tgtAt, h]
theorem selL_snoc_in {cs : List Cmd} {m z : Int} {zs : List Int} (h : z < m) : selL cs m (zs ++ [z]) = selL cs m zs ++ [tgtAt cs z] := by simp [selL, h]
theorem selL_snoc_out {cs : List Cmd} {m z : Int} {zs : List Int} (h : ¬ z < m) : selL cs m (zs ++ [z]) = selL cs m zs := by simp [selL, h]
theorem selL_length {cs : List Cmd} {m : Int} {zs : List Int} : (selL cs m zs).length ≤ zs.length := by unfold selL; rw [List.length_map]; exact List.length_filter_le _ _
theorem selL_prefix {cs : List Cmd} {m : Int} {zs zs' : List Int} (h : zs' <+: zs) : selL cs m zs' <+: selL cs m zs := by
  obtain ⟨r, rfl⟩ := h
  exact ⟨selL cs m r, by simp [selL]⟩

/-- What the iterator has caught. -/
structure Caught (w : World) (Bs Bn Bl g : Nat) (idx : Array Int) (cs : List Cmd) (ca : Option Addr) (ccap : Nat) (m : Int) : Prop where
  s : w.heap[Bs]? = some (.cells #[.slice (some ⟨g, 0, none⟩) idx.size idx.size] 96 (0, 0))
  n : w.heap[Bn]? = some (.cells #[.int .i64 m] 3 (0, 0))
  l : w.heap[Bl]? = some (boxL ca cs.length ccap)
  g : w.heap[g]? = some (rowI idx)
  c : CmdsIn w ca cs ccap
  small : idx.size ≤ 1000000
  idx : ∀ i, i < idx.size → ∃ j : Nat, j < cs.length ∧ idx[i]! = (j : Int)
  ok : ∀ c ∈ cs, okE c.tgt = true ∧ (c.k = 1 ∨ c.k = 2)
theorem Caught.below {w w' : World} {Bs Bn Bl g : Nat} {idx : Array Int} {cs : List Cmd} {ca : Option Addr} {ccap : Nat} {m : Int} (h : Caught w Bs Bn Bl g idx cs ca ccap m) (hb : Below w.heap.size w w') : Caught w' Bs Bn Bl g idx cs ca ccap m :=
  ⟨heap_below h.s hb, heap_below h.n hb, heap_below h.l hb, heap_below h.g hb, h.c.below hb, h.small, h.idx, h.ok⟩
theorem below_grown0 {w w' : World} (h : Below w.heap.size w w') : w.grownBy w' none := ⟨h.os, h.tape, h.output, h.size, fun k hk _ => h.block k hk⟩

/-- An extent that is valid. -/
abbrev OExt : Type := { x : Int × Int // okE x = true }

theorem take_snoc {α : Type} [Inhabited α] {d : Array α} {k : Nat} (hk : k < d.size) : d.toList.take (k + 1) = d.toList.take k ++ [d[k]!] := by
  rw [List.take_add_one, getElem!_pos d k hk]
  congr 1
  simp [hk]

/-- Two of the extents, which ascend, have bytes in common; where the walk stands still. -/
def ovL : Int → List (Int × Int) → Bool
  | _, [] => false
  | e, x :: r => if x.1 < e then true else ovL (x.1 + x.2) r
def endL (pre : List (Int × Int)) : Int := (pre.getLast?.map fun x => x.1 + x.2).getD 0
theorem endL_snoc (pre : List (Int × Int)) (x : Int × Int) : endL (pre ++ [x]) = x.1 + x.2 := by simp [endL]
theorem ovL_append : ∀ (pre : List (Int × Int)) (e : Int) (r : List (Int × Int)), ovL e (pre ++ r) = (ovL e pre || ovL ((pre.getLast?.map fun x => x.1 + x.2).getD e) r) := by
  intro pre
  induction pre with
  | nil => intro e r; simp [ovL]
  | cons a pre ih =>
    intro e r
    rw [List.cons_append, ovL, ovL]
    by_cases h : a.1 < e
    · simp [h]
    · rw [if_neg h, if_neg h, ih]
      cases pre with
      | nil => simp
      | cons b pre => simp [List.getLast?_cons_cons, List.getLast?_cons]
theorem ovL_snoc (pre : List (Int × Int)) (x : Int × Int) : ovL 0 (pre ++ [x]) = (ovL 0 pre || decide (x.1 < endL pre)) := by
  rw [ovL_append]
  unfold endL
  congr 1
theorem ovL_prefix {pre l : List (Int × Int)} (h : pre <+: l) (ho : ovL 0 pre = true) : ovL 0 l = true := by
  obtain ⟨r, rfl⟩ := h
  rw [ovL_append, ho]
  rfl

end Go.Proofs.Ytefonhnidkfbgaa
