/- The mathematics of slices.SortStableFunc over integers: insertion, exchanged ranges, rotations, merges in place, blocks. No Go text. slices.SortStableFunc over integers: the library's text, walked. slices.SortStableFunc over integers: the library's text, walked: rotations and merges. slices.SortStableFunc over integers: the library's text, walked: the merge in place, the blocks, the whole. slices.SortStableFunc over integers: the whole. -/
import Derived.Sort.LotA
import Derived.LoopTactic
import Derived.Shelf.RegionOpenPlain
import Derived.Test.YtgmjppjgbalapaaE09q2
import Derived.Test.YtgmjppjgbalapaaProg
namespace Go.Proofs.Ytgmjppjgbalapaa
open Go.Sort
set_option linter.unusedVariables false

/-- Less by a key. -/
def ltK (key : Int → Int) : Int → Int → Bool := fun x y => decide (key x < key y)
theorem swoK (key : Int → Int) : SWO (ltK key) where
  irrefl x := by simp [ltK]
  trans x y z h1 h2 := by simp only [ltK, decide_eq_true_eq] at *; omega
  ntrans x y z h1 h2 := by simp only [ltK, decide_eq_false_iff_not] at *; omega
def AscIn (key : Int → Int) (a b : Nat) (d : Array Int) : Prop := ∀ i j, a ≤ i → i < j → j < b → key d[i]! ≤ key d[j]!
theorem ascIn_iff {key : Int → Int} {a b : Nat} {d : Array Int} : SortedIn (ltK key) a b d ↔ AscIn key a b d := by
  unfold SortedIn AscIn ltK
  constructor
  · intro h i j h1 h2 h3
    have := h i j h1 h2 h3
    simp only [decide_eq_false_iff_not] at this
    omega
  · intro h i j h1 h2 h3
    have := h i j h1 h2 h3
    simp only [decide_eq_false_iff_not]
    omega
theorem AscIn.sub {key : Int → Int} {a b a' b' : Nat} {d : Array Int} (h : AscIn key a b d) (ha : a ≤ a') (hb : b' ≤ b) : AscIn key a' b' d := fun i j h1 h2 h3 => h i j (by omega) h2 (by omega)
theorem AscIn.congr {key : Int → Int} {a b : Nat} {d d' : Array Int} (h : AscIn key a b d) (he : ∀ p, a ≤ p → p < b → d'[p]! = d[p]!) : AscIn key a b d' := fun i j h1 h2 h3 => by
  rw [he i h1 (by omega), he j (by omega) h3]
  exact h i j h1 h2 h3
theorem AscIn.le {key : Int → Int} {a b : Nat} {d : Array Int} (h : AscIn key a b d) {i j : Nat} (h1 : a ≤ i) (h2 : i ≤ j) (h3 : j < b) : key d[i]! ≤ key d[j]! := by
  by_cases e : i = j
  · subst e; omega
  · exact h i j h1 (by omega) h3
theorem AscIn.one {key : Int → Int} {a b : Nat} {d : Array Int} (h : b ≤ a + 1) : AscIn key a b d := fun i j h1 h2 h3 => by omega

/-- One element moves forward. -/
structure Fwd (a b k : Nat) (d dk : Array Int) : Prop where
  perm : PermIn a b d dk
  out : ∀ p, p < a ∨ k < p → dk[p]! = d[p]!
  at_ : dk[k]! = d[a]!
  low : ∀ p, a ≤ p → p < k → dk[p]! = d[p + 1]!
theorem Fwd.start (a b : Nat) (d : Array Int) : Fwd a b a d d := ⟨permIn_refl _ _ _, fun _ _ => rfl, rfl, fun p h1 h2 => by omega⟩
theorem Fwd.step {a b k : Nat} {d dk : Array Int} (h : Fwd a b k d dk) (ha : a ≤ k) (hk : k + 1 < b) (hb : b ≤ d.size) : Fwd a b (k + 1) d (swp dk k (k + 1)) := by
  have hs := h.perm.1
  have g := swp_get dk (show k < dk.size by omega) (show k + 1 < dk.size by omega)
  refine ⟨permIn_trans _ _ _ _ _ h.perm (swp_permIn _ _ _ _ _ ha (by omega) (by omega) hk (by omega)), fun p hp => ?_, ?_, fun p h1 h2 => ?_⟩
  · rw [g, if_neg (by omega), if_neg (by omega)]
    exact h.out p (by omega)
  · rw [g, if_pos rfl]; exact h.at_
  · rw [g, if_neg (by omega)]
    by_cases e : p = k
    · rw [if_pos e, e]; exact h.out _ (by omega)
    · rw [if_neg e]; exact h.low p h1 (by omega)
theorem Fwd.asc {key : Int → Int} {a b k i : Nat} {d dk : Array Int} (h : Fwd a b k d dk) (ha : a ≤ k) (hki : k + 1 = i) (hi : i ≤ b) (hd : AscIn key (a + 1) b d) (h1 : ∀ p, a + 1 ≤ p → p < i → key d[p]! < key d[a]!) (h2 : ∀ p, i ≤ p → p < b → key d[a]! ≤ key d[p]!) : AscIn key a b dk := by
  intro p q hp hpq hq
  have cl : ∀ x, a ≤ x → x < k → key dk[x]! < key d[a]! := fun x hx hxk => by rw [h.low x hx hxk]; exact h1 _ (by omega) (by omega)
  have ch : ∀ x, k < x → x < b → key d[a]! ≤ key dk[x]! := fun x hx hxb => by rw [h.out x (.inr hx)]; exact h2 _ (by omega) hxb
  rcases Nat.lt_trichotomy p k with e | e | e
  · rcases Nat.lt_trichotomy q k with f | f | f
    · rw [h.low p hp e, h.low q (by omega) f]; exact hd _ _ (by omega) (by omega) (by omega)
    · have := cl p hp e; rw [f, h.at_]; omega
    · have := cl p hp e; have := ch q f hq; omega
  · rw [e, h.at_]; exact ch q (by omega) hq
  · rw [h.out p (.inr e), h.out q (.inr (by omega))]; exact hd _ _ (by omega) hpq hq

/-- One element moves backward. -/
structure Bwd (a b m k : Nat) (d dk : Array Int) : Prop where
  perm : PermIn a b d dk
  out : ∀ p, p < k ∨ m < p → dk[p]! = d[p]!
  at_ : dk[k]! = d[m]!
  high : ∀ p, k < p → p ≤ m → dk[p]! = d[p - 1]!
theorem Bwd.start (a b m : Nat) (d : Array Int) : Bwd a b m m d d := ⟨permIn_refl _ _ _, fun _ _ => rfl, rfl, fun p h1 h2 => by omega⟩
theorem Bwd.step {a b m k : Nat} {d dk : Array Int} (h : Bwd a b m (k + 1) d dk) (ha : a ≤ k) (hk : k + 1 ≤ m) (hm : m < b) (hb : b ≤ d.size) : Bwd a b m k d (swp dk (k + 1) k) := by
  have hs := h.perm.1
  have g := swp_get dk (show k + 1 < dk.size by omega) (show k < dk.size by omega)
  refine ⟨permIn_trans _ _ _ _ _ h.perm (swp_permIn _ _ _ _ _ (by omega) (by omega) ha (by omega) (by omega)), fun p hp => ?_, ?_, fun p h1 h2 => ?_⟩
  · rw [g, if_neg (by omega), if_neg (by omega)]
    exact h.out p (by omega)
  · rw [g, if_pos rfl]; exact h.at_
  · rw [g, if_neg (by omega)]
    by_cases e : p = k + 1
    · rw [if_pos e, e]; exact h.out _ (by omega)
    · rw [if_neg e]; exact h.high p (by omega) h2
theorem Bwd.asc {key : Int → Int} {a b m k : Nat} {d dk : Array Int} (h : Bwd a b m k d dk) (hm : m + 1 = b) (hak : a ≤ k) (hk : k ≤ m) (hd : AscIn key a m d) (h1 : ∀ p, a ≤ p → p < k → key d[p]! ≤ key d[m]!) (h2 : ∀ p, k ≤ p → p < m → key d[m]! < key d[p]!) : AscIn key a b dk := by
  intro p q hp hpq hq
  have cl : ∀ x, a ≤ x → x < k → key dk[x]! ≤ key d[m]! := fun x hx hxk => by rw [h.out x (.inl hxk)]; exact h1 _ hx hxk
  have ch : ∀ x, k < x → x ≤ m → key d[m]! < key dk[x]! := fun x hx hxb => by rw [h.high x hx hxb]; exact h2 _ (by omega) (by omega)
  rcases Nat.lt_trichotomy q k with e | e | e
  · rw [h.out p (.inl (by omega)), h.out q (.inl e)]; exact hd _ _ hp hpq (by omega)
  · rw [e, h.at_]; exact cl p hp (by omega)
  · rcases Nat.lt_trichotomy p k with f | f | f
    · have := cl p hp f; have := ch q e (by omega); omega
    · have := ch q e (by omega); rw [f, h.at_]; omega
    · rw [h.high p f (by omega), h.high q e (by omega)]; exact hd _ _ (by omega) (by omega) (by omega)

/-- Two ranges have been exchanged, n places of them. -/
structure Exch (i j n : Nat) (d d' : Array Int) : Prop where
  size : d'.size = d.size
  left : ∀ p q, i ≤ p → p < i + n → q = j + (p - i) → d'[p]! = d[q]!
  right : ∀ p q, j ≤ p → p < j + n → q = i + (p - j) → d'[p]! = d[q]!
  out : ∀ p, (p < i ∨ i + n ≤ p) → (p < j ∨ j + n ≤ p) → d'[p]! = d[p]!
  perm : ∀ a b, a ≤ i → i + n ≤ b → a ≤ j → j + n ≤ b → b ≤ d.size → PermIn a b d d'
theorem Exch.start (i j : Nat) (d : Array Int) : Exch i j 0 d d := ⟨rfl, fun p q h1 h2 => by omega, fun p q h1 h2 => by omega, fun _ _ _ => rfl, fun a b _ _ _ _ _ => permIn_refl _ _ _⟩
theorem Exch.step {i j n : Nat} {d dk : Array Int} (h : Exch i j n d dk) (hij : i + n + 1 ≤ j) (hj : j + n < d.size) : Exch i j (n + 1) d (swp dk (i + n) (j + n)) := by
  have hs := h.size
  have g := swp_get dk (show i + n < dk.size by omega) (show j + n < dk.size by omega)
  refine ⟨by rw [swp_size]; exact hs, fun p q h1 h2 hq => ?_, fun p q h1 h2 hq => ?_, fun p h1 h2 => ?_, fun a b h1 h2 h3 h4 h5 => ?_⟩
  · rw [g, if_neg (by omega)]
    by_cases e : p = i + n
    · rw [if_pos e, h.out (j + n) (by omega) (by omega)]; congr 1; omega
    · rw [if_neg e]; exact h.left p q h1 (by omega) hq
  · by_cases e : p = j + n
    · rw [g, if_pos e, h.out (i + n) (by omega) (by omega)]; congr 1; omega
    · rw [g, if_neg e, if_neg (by omega)]; exact h.right p q h1 (by omega) hq
  · rw [g, if_neg (by omega), if_neg (by omega)]; exact h.out p (by omega) (by omega)
  · exact permIn_trans _ _ _ _ _ (h.perm a b h1 (by omega) h3 (by omega) h5) (swp_permIn _ _ _ _ _ (by omega) (by omega) (by omega) (by omega) (by omega))

/-- What is between a and m has changed places with what is between m and b. -/
structure Rot (a m b : Nat) (d d' : Array Int) : Prop where
  perm : PermIn a b d d'
  low : ∀ p q, a ≤ p → p < a + (b - m) → q = m + (p - a) → d'[p]! = d[q]!
  high : ∀ p q, a + (b - m) ≤ p → p < b → q = p - (b - m) → d'[p]! = d[q]!
/-- On the way to it: i and j places are still to be exchanged. -/
structure RotAt (a m b i j : Nat) (d dk : Array Int) : Prop where
  perm : PermIn a b d dk
  hi : a ≤ m - i
  him : i ≤ m
  hj : m + j ≤ b
  goal : ∀ d', PermIn a b d d' → (∀ p, p < m - i ∨ m + j ≤ p → d'[p]! = dk[p]!) → (∀ p q, m - i ≤ p → p < m - i + j → q = m + (p - (m - i)) → d'[p]! = dk[q]!) → (∀ p q, m - i + j ≤ p → p < m + j → q = p - j → d'[p]! = dk[q]!) → Rot a m b d d'
theorem RotAt.start {a m b : Nat} (h1 : a ≤ m) (h2 : m ≤ b) (d : Array Int) : RotAt a m b (m - a) (b - m) d d :=
  ⟨permIn_refl _ _ _, by omega, by omega, by omega, fun d' hp _ hl hh => ⟨hp, fun p q p1 p2 hq => hl p q (by omega) (by omega) (by omega), fun p q p1 p2 hq => hh p q (by omega) (by omega) (by omega)⟩⟩
theorem RotAt.more {a m b i j : Nat} {d dk dn : Array Int} (h : RotAt a m b i j d dk) (hj0 : 0 < j) (hij : j < i) (hb : b ≤ d.size) (hx : Exch (m - i) m j dk dn) : RotAt a m b (i - j) j d dn := by
  obtain ⟨p1, p2, p3, p4, p5⟩ := h
  have hs := p1.1
  refine ⟨permIn_trans _ _ _ _ _ p1 (hx.perm a b (by omega) (by omega) (by omega) (by omega) (by omega)), by omega, by omega, by omega, fun d' hp ho hl hh => p5 d' hp (fun p hpo => ?_) (fun p q q1 q2 hq => ?_) (fun p q q1 q2 hq => ?_)⟩
  · rw [ho p (by omega)]; exact hx.out p (by omega) (by omega)
  · rw [ho p (by omega)]; exact hx.left p q (by omega) (by omega) (by omega)
  · by_cases e : p < m - i + j + j
    · rw [hl p (p - (m - i + j) + m) (by omega) (by omega) (by omega)]; exact hx.right _ q (by omega) (by omega) (by omega)
    · rw [hh p q (by omega) (by omega) (by omega)]; exact hx.out q (by omega) (by omega)
theorem RotAt.less {a m b i j : Nat} {d dk dn : Array Int} (h : RotAt a m b i j d dk) (hi0 : 0 < i) (hij : i < j) (hb : b ≤ d.size) (hx : Exch (m - i) (m + j - i) i dk dn) : RotAt a m b i (j - i) d dn := by
  obtain ⟨p1, p2, p3, p4, p5⟩ := h
  have hs := p1.1
  refine ⟨permIn_trans _ _ _ _ _ p1 (hx.perm a b (by omega) (by omega) (by omega) (by omega) (by omega)), by omega, by omega, by omega, fun d' hp ho hl hh => p5 d' hp (fun p hpo => ?_) (fun p q q1 q2 hq => ?_) (fun p q q1 q2 hq => ?_)⟩
  · rw [ho p (by omega)]; exact hx.out p (by omega) (by omega)
  · by_cases e : p < m - i + (j - i)
    · rw [hl p q (by omega) (by omega) (by omega)]; exact hx.out q (by omega) (by omega)
    · rw [hh p (p - (j - i)) (by omega) (by omega) (by omega)]; exact hx.left _ q (by omega) (by omega) (by omega)
  · by_cases e : p < m + (j - i)
    · omega
    · rw [ho p (by omega)]; exact hx.right p q (by omega) (by omega) (by omega)
theorem RotAt.last {a m b i : Nat} {d dk dn : Array Int} (h : RotAt a m b i i d dk) (hb : b ≤ d.size) (hx : Exch (m - i) m i dk dn) : Rot a m b d dn := by
  obtain ⟨p1, p2, p3, p4, p5⟩ := h
  have hs := p1.1
  exact p5 dn (permIn_trans _ _ _ _ _ p1 (hx.perm a b (by omega) (by omega) (by omega) (by omega) (by omega))) (fun p hp => hx.out p (by omega) (by omega)) (fun p q q1 q2 hq => hx.left p q (by omega) (by omega) (by omega)) (fun p q q1 q2 hq => hx.right p q (by omega) (by omega) (by omega))
theorem rot_refl {a m b : Nat} {d : Array Int} (h1 : a ≤ m) (h2 : m ≤ b) (h : a = m ∨ m = b) : Rot a m b d d :=
  ⟨permIn_refl _ _ _, fun p q p1 p2 hq => by congr 1; omega, fun p q p1 p2 hq => by congr 1; omega⟩

/-- What a merge is handed: the place of the middle, the bounds of the search. -/
structure Sym (a m b mid s : Nat) : Prop where
  am : a < m
  mb : m < b
  hm : 2 * mid = a + b ∨ 2 * mid + 1 = a + b
  lo : a ≤ s
  sm : s ≤ mid
  sm' : s ≤ m
  e1 : m ≤ mid + m - s
  e2 : mid ≤ mid + m - s
  e3 : mid + m - s ≤ b
/-- The search's own bounds. -/
def symLo (a m b mid : Nat) : Nat := if mid < m then mid + m - b else a
def symHi (m mid : Nat) : Nat := if mid < m then mid else m
theorem sym_of {a m b mid s : Nat} (h1 : a < m) (h2 : m < b) (hm : 2 * mid = a + b ∨ 2 * mid + 1 = a + b) (l : symLo a m b mid ≤ s) (r : s ≤ symHi m mid) : Sym a m b mid s := by
  unfold symLo at l
  unfold symHi at r
  split at l <;> split at r <;> first | omega | exact ⟨h1, h2, hm, by omega, by omega, by omega, by omega, by omega, by omega⟩
theorem sym_lo_hi {a m b mid : Nat} (h1 : a < m) (h2 : m < b) (hm : 2 * mid = a + b ∨ 2 * mid + 1 = a + b) : symLo a m b mid ≤ symHi m mid := by
  unfold symLo symHi
  split <;> omega
theorem sym_c {a m b mid c : Nat} (h1 : a < m) (h2 : m < b) (hm : 2 * mid = a + b ∨ 2 * mid + 1 = a + b) (l : symLo a m b mid ≤ c) (r : c < symHi m mid) : a ≤ c ∧ c < m ∧ c + 1 ≤ mid + m ∧ m ≤ mid + m - 1 - c ∧ mid + m - 1 - c < b := by
  unfold symLo at l
  unfold symHi at r
  split at l <;> split at r <;> omega
/-- What the search has found so far. -/
structure SymAt (key : Int → Int) (a m b mid l r : Nat) (d : Array Int) : Prop where
  lr : l ≤ r
  lo : symLo a m b mid ≤ l
  hi : r ≤ symHi m mid
  below : l = symLo a m b mid ∨ ∃ c, c + 1 = l ∧ symLo a m b mid ≤ c ∧ key d[c]! ≤ key d[mid + m - 1 - c]!
  above : r = symHi m mid ∨ (r < symHi m mid ∧ key d[mid + m - 1 - r]! < key d[r]!)
theorem SymAt.start {key : Int → Int} {a m b mid : Nat} {d : Array Int} (h1 : a < m) (h2 : m < b) (hm : 2 * mid = a + b ∨ 2 * mid + 1 = a + b) : SymAt key a m b mid (symLo a m b mid) (symHi m mid) d :=
  ⟨sym_lo_hi h1 h2 hm, Nat.le_refl _, Nat.le_refl _, .inl rfl, .inl rfl⟩
theorem SymAt.up {key : Int → Int} {a m b mid l r c : Nat} {d : Array Int} (h : SymAt key a m b mid l r d) (h1 : l ≤ c) (h2 : c < r) (hk : key d[c]! ≤ key d[mid + m - 1 - c]!) : SymAt key a m b mid (c + 1) r d :=
  ⟨by omega, by have := h.lo; omega, h.hi, .inr ⟨c, rfl, by have := h.lo; omega, hk⟩, h.above⟩
theorem SymAt.down {key : Int → Int} {a m b mid l r c : Nat} {d : Array Int} (h : SymAt key a m b mid l r d) (h1 : l ≤ c) (h2 : c < r) (hk : key d[mid + m - 1 - c]! < key d[c]!) : SymAt key a m b mid l c d :=
  ⟨h1, h.lo, by have := h.hi; omega, h.below, .inr ⟨by have := h.hi; omega, hk⟩⟩
/-- The two facts that make the merge. -/
theorem SymAt.ends {key : Int → Int} {a m b mid s : Nat} {d : Array Int} (h : SymAt key a m b mid s s d) (h1 : a < m) (h2 : m < b) (hm : 2 * mid = a + b ∨ 2 * mid + 1 = a + b) (hl : AscIn key a m d) (hr : AscIn key m b d) :
    (∀ p q, a ≤ p → p < s → mid + m - s ≤ q → q < b → key d[p]! ≤ key d[q]!) ∧ (∀ p q, m ≤ p → p < mid + m - s → s ≤ q → q < m → key d[p]! ≤ key d[q]!) := by
  have hy := sym_of h1 h2 hm h.lo h.hi
  obtain ⟨_, _, _, y1, y2, y3, y4, y5, y6⟩ := hy
  constructor
  · intro p q p1 p2 q1 q2
    rcases h.below with e | ⟨c, rfl, hc, hk⟩
    · unfold symLo at e
      split at e <;> omega
    · have hcc := sym_c h1 h2 hm hc (by have := h.hi; omega)
      have k1 := hl.le p1 (show p ≤ c by omega) hcc.2.1
      have k2 := hr.le (show m ≤ mid + m - 1 - c by omega) (show mid + m - 1 - c ≤ q by omega) q2
      omega
  · intro p q p1 p2 q1 q2
    rcases h.above with e | ⟨e, hk⟩
    · unfold symHi at e
      split at e <;> omega
    · have hcc := sym_c h1 h2 hm h.lo e
      have k1 := hr.le p1 (show p ≤ mid + m - 1 - s by omega) (by omega)
      have k2 := hl.le hcc.1 q1 q2
      omega
/-- Behind the rotation. -/
structure Half (key : Int → Int) (a m b mid s : Nat) (d : Array Int) : Prop where
  q1 : AscIn key a s d
  q2 : AscIn key s mid d
  q3 : AscIn key mid (mid + m - s) d
  q4 : AscIn key (mid + m - s) b d
  cross : ∀ p q, a ≤ p → p < mid → mid ≤ q → q < b → key d[p]! ≤ key d[q]!
theorem half_of {key : Int → Int} {a m b mid s : Nat} {d d1 : Array Int} (hy : Sym a m b mid s) (hl : AscIn key a m d) (hr : AscIn key m b d)
    (f1 : ∀ p q, a ≤ p → p < s → mid + m - s ≤ q → q < b → key d[p]! ≤ key d[q]!) (f2 : ∀ p q, m ≤ p → p < mid + m - s → s ≤ q → q < m → key d[p]! ≤ key d[q]!) (h : Rot s m (mid + m - s) d d1) : Half key a m b mid s d1 := by
  obtain ⟨_, _, _, y1, y2, y3, y4, y5, y6⟩ := hy
  have o := h.perm.2.1
  have lo : ∀ p, s ≤ p → p < mid → d1[p]! = d[m + (p - s)]! := fun p p1 p2 => h.low p _ p1 (by omega) rfl
  have hi : ∀ p, mid ≤ p → p < mid + m - s → d1[p]! = d[s + (p - mid)]! := fun p p1 p2 => h.high p _ (by omega) p2 (by omega)
  refine ⟨(hl.sub (Nat.le_refl _) y3).congr fun p p1 p2 => o p (.inl p2), fun p q p1 pq q2 => ?_, fun p q p1 pq q2 => ?_, (hr.sub (by omega) (Nat.le_refl _)).congr fun p p1 p2 => o p (.inr p1), fun p q p1 p2 q1 q2 => ?_⟩
  · rw [lo p p1 (by omega), lo q (by omega) q2]; exact hr _ _ (by omega) (by omega) (by omega)
  · rw [hi p p1 (by omega), hi q (by omega) q2]; exact hl _ _ (by omega) (by omega) (by omega)
  · by_cases e1 : p < s
    · rw [o p (.inl e1)]
      by_cases e2 : q < mid + m - s
      · rw [hi q q1 e2]; exact hl.le p1 (by omega) (by omega)
      · rw [o q (.inr (by omega))]; exact f1 p q p1 e1 (by omega) q2
    · rw [lo p (by omega) p2]
      by_cases e2 : q < mid + m - s
      · rw [hi q q1 e2]; exact f2 _ _ (by omega) (by omega) (by omega) (by omega)
      · rw [o q (.inr (by omega))]; exact hr.le (by omega) (by omega) q2
/-- Both halves sorted. -/
theorem Half.asc {key : Int → Int} {a m b mid s : Nat} {d1 d2 d3 : Array Int} (h : Half key a m b mid s d1) (hb : b ≤ d1.size) (ham : a ≤ mid) (hmb : mid ≤ b) (p2 : PermIn a mid d1 d2) (a2 : AscIn key a mid d2) (p3 : PermIn mid b d2 d3) (a3 : AscIn key mid b d3) : AscIn key a b d3 := by
  have hs := p2.1
  have c2 : ∀ p q, a ≤ p → p < mid → mid ≤ q → q < b → key d2[p]! ≤ key d2[q]! := fun p q h1 h2 h3 h4 => by
    rw [p2.2.1 q (.inr h3)]
    exact permIn_all d1 d2 a mid (fun x => key x ≤ key d1[q]!) (by omega) p2 (fun i i1 i2 => h.cross i q i1 i2 h3 h4) p h1 h2
  have c3 : ∀ p q, a ≤ p → p < mid → mid ≤ q → q < b → key d3[p]! ≤ key d3[q]! := fun p q h1 h2 h3 h4 => by
    rw [p3.2.1 p (.inl h2)]
    exact permIn_all d2 d3 mid b (fun x => key d2[p]! ≤ key x) (by omega) p3 (fun i i1 i2 => c2 p i h1 h2 i1 i2) q h3 h4
  intro i j h1 h2 h3
  by_cases e1 : j < mid
  · rw [p3.2.1 i (.inl (by omega)), p3.2.1 j (.inl e1)]; exact a2 i j h1 h2 e1
  · by_cases e2 : i < mid
    · exact c3 i j h1 e2 (by omega) h3
    · exact a3 i j (by omega) h2 h3

/-- The blocks of a length, from a place on. -/
def Blocks (key : Int → Int) (a bs n : Nat) (d : Array Int) : Prop := ∀ k, AscIn key (a + k * bs) (min (a + (k + 1) * bs) n) d
/-- The blocks up to the c-th. -/
def Done (key : Int → Int) (c bs : Nat) (d : Array Int) : Prop := ∀ k, k < c → AscIn key (k * bs) ((k + 1) * bs) d
theorem Blocks.whole {key : Int → Int} {bs n : Nat} {d : Array Int} (h : Blocks key 0 bs n d) (hn : n ≤ bs) : AscIn key 0 n d := by
  have := h 0
  simp only [Nat.zero_mul, Nat.zero_add, Nat.one_mul] at this
  exact this.sub (Nat.le_refl _) (by omega)
theorem Done.zero {key : Int → Int} {bs : Nat} {d : Array Int} : Done key 0 bs d := fun k hk => by omega
theorem Done.next {key : Int → Int} {c bs : Nat} {d d' : Array Int} (h : Done key c bs d) (hp : PermIn (c * bs) ((c + 1) * bs) d d') (ha : AscIn key (c * bs) ((c + 1) * bs) d') : Done key (c + 1) bs d' := fun k hk => by
  by_cases e : k = c
  · subst e; exact ha
  · refine (h k (by omega)).congr fun p p1 p2 => hp.2.1 p (.inl ?_)
    have : (k + 1) * bs ≤ c * bs := Nat.mul_le_mul_right _ (by omega)
    omega
theorem Done.congr {key : Int → Int} {c bs : Nat} {d d' : Array Int} (h : Done key c bs d) {lo hi : Nat} (hp : PermIn lo hi d d') (hl : c * bs ≤ lo) : Done key c bs d' := fun k hk => by
  refine (h k hk).congr fun p p1 p2 => hp.2.1 p (.inl ?_)
  have : (k + 1) * bs ≤ c * bs := Nat.mul_le_mul_right _ (by omega)
  omega
/-- What lies behind the last whole block is sorted, too. -/
theorem Done.blocks {key : Int → Int} {c bs n : Nat} {d : Array Int} (h : Done key c bs d) (hc : c * bs ≤ n) (hn : n < (c + 1) * bs) (ht : AscIn key (c * bs) n d) : Blocks key 0 bs n d := fun k => by
  rw [Nat.zero_add, Nat.zero_add]
  rcases Nat.lt_trichotomy k c with e | e | e
  · exact (h k e).sub (Nat.le_refl _) (by omega)
  · subst e; exact ht.sub (Nat.le_refl _) (by omega)
  · have : (c + 1) * bs ≤ k * bs := Nat.mul_le_mul_right _ (by omega)
    exact AscIn.one (by omega)
theorem Blocks.congr {key : Int → Int} {a a' bs n lo hi : Nat} {d d' : Array Int} (h : Blocks key a bs n d) (hp : PermIn lo hi d d') (ha : a' = a + 2 * bs) (hh : hi ≤ a') : Blocks key a' bs n d' := fun k => by
  have e1 : (k + 2) * bs = k * bs + 2 * bs := Nat.add_mul _ _ _
  have e2 : (k + 2 + 1) * bs = (k + 1) * bs + 2 * bs := by rw [show k + 2 + 1 = (k + 1) + 2 by omega]; exact Nat.add_mul _ _ _
  have := h (k + 2)
  rw [e1, e2] at this
  subst ha
  refine AscIn.congr (this.sub (by omega) (by omega)) fun p p1 p2 => hp.2.1 p (.inr (by omega))
theorem Blocks.first {key : Int → Int} {a bs n : Nat} {d : Array Int} (h : Blocks key a bs n d) (hn : a + bs ≤ n) : AscIn key a (a + bs) d := by
  have := h 0
  simp only [Nat.zero_mul, Nat.add_zero, Nat.zero_add, Nat.one_mul] at this
  exact this.sub (Nat.le_refl _) (by omega)
theorem Blocks.second {key : Int → Int} {a bs n b : Nat} {d : Array Int} (h : Blocks key a bs n d) (hb : b ≤ n) (hb2 : b ≤ a + 2 * bs) : AscIn key (a + bs) b d := by
  have := h 1
  simp only [Nat.one_mul] at this
  exact this.sub (Nat.le_refl _) (by omega)
theorem Blocks.tail {key : Int → Int} {a bs n : Nat} {d : Array Int} (h : Blocks key a bs n d) (hn : n ≤ a + bs) : AscIn key a n d := by
  have := h 0
  simp only [Nat.zero_mul, Nat.add_zero, Nat.zero_add, Nat.one_mul] at this
  exact this.sub (Nat.le_refl _) (by omega)
end Go.Proofs.Ytgmjppjgbalapaa

namespace Go.Proofs.Ytgmjppjgbalapaa
open Go.RowKit Go.Sort
set_option linter.unusedVariables false
set_option linter.unusedSimpArgs false

/-- A row of integers. -/
abbrev rowI (d : Array Int) : Obj := .cells (d.map (Value.int .i64)) 3 (0, 0)
/-- A world in which nothing that was there but the row g has changed; the row holds d. -/
abbrev RowX (w0 : World) (g : Nat) (d : Array Int) : Type := HeldX w0 g [(g, rowI d)]
theorem RowX.cell {w0 : World} {g : Nat} {d : Array Int} (s : RowX w0 g d) {i : Nat} (hi : i < d.size) : s.w.cell? ⟨g, i, none⟩ = some (.int .i64 d[i]!) := by
  rw [cell_of (s.blocks (g, rowI d) List.mem_cons_self)]
  simp [getElem!_pos d i hi, hi]
theorem RowX.free {w0 : World} {g : Nat} {d : Array Int} (s : RowX w0 g d) (i : Nat) : s.w.frozen? ⟨g, i, none⟩ = false := free_of (s.blocks (g, rowI d) List.mem_cons_self) i
/-- Behind the first store of an exchange the second place still holds something. -/
theorem RowX.cell2 {w0 : World} {g : Nat} {d : Array Int} (s : RowX w0 g d) {i j : Nat} (hi : i < d.size) (hj : j < d.size) (v : Value) : ∃ u, (s.w.setCell ⟨g, i, none⟩ v).cell? ⟨g, j, none⟩ = some u := by
  by_cases e : i = j
  · subst e; exact ⟨v, World.cell?_setCell_same _ _ _ (s.cell hi)⟩
  · exact ⟨_, (World.cell?_setCell_other _ _ _ _ (by intro e'; simp only [Addr.mk.injEq] at e'; omega)).trans (s.cell hj)⟩
def RowX.put {w0 : World} {g : Nat} {d : Array Int} (s : RowX w0 g d) (i : Nat) (x : Int) : RowX w0 g (d.setIfInBounds i x) :=
  HeldX.store (i := i) (v := .int .i64 x) s (.inl rfl) (by simp) (by simp)
theorem RowX.exch {w0 : World} {g : Nat} {d : Array Int} (s : RowX w0 g d) (i j : Nat) : ∃ s' : RowX w0 g (swp d i j), (s.w.setCell ⟨g, i, none⟩ (.int .i64 d[j]!)).setCell ⟨g, j, none⟩ (.int .i64 d[i]!) = s'.w := ⟨(s.put i d[j]!).put j d[i]!, rfl⟩

def cmpI (a b : Int) : Int := if a < b then -1 else if b < a then 1 else 0
theorem cmpI_lt (a b : Int) : decide (cmpI a b < 0) = decide (a < b) := by
  unfold cmpI
  split
  · simp [*]
  · split <;> simp [*]
def AllE (E : Int → Prop) (d : Array Int) : Prop := ∀ i, i < d.size → E d[i]!
theorem AllE.perm {E : Int → Prop} {a b : Nat} {d d' : Array Int} (h : AllE E d) (hb : b ≤ d.size) (hp : PermIn a b d d') : AllE E d' := fun i hi => by
  have hs := hp.1
  by_cases h1 : i < a ∨ b ≤ i
  · rw [hp.2.1 i h1]; exact h i (by omega)
  · exact permIn_all d d' a b E hb hp (fun k k1 k2 => h k (by omega)) i (by omega) (by omega)
/-- What is asked of the comparison. -/
structure CmpX (w0 : World) (g N : Nat) (cb : Nat) (lb : Array Value) (key : Int → Int) (E : Int → Prop) : Prop where
  enters : ∀ args w, (callFunc cb args).run Try.prog w = .ok (.enter cb args) w
  calls : ∀ (d : Array Int) (s : RowX w0 g d), d.size = N → ∀ x y, E x → E y → Calls Try.prog cb (#[.int .i64 x, .int .i64 y] ++ lb) s.w (Gives (.int .i64 (cmpI (key x) (key y))) s.w)

set_option maxRecDepth 100000 in
set_option maxHeartbeats 4000000 in
theorem sswap_any (cb : Value) (g cap i j n N : Nat) (d : Array Int) (w0 : World) (s : RowX w0 g d) (hN : d.size = N) (hb : N ≤ 4611686018427387903) (h1 : i + n ≤ j) (h2 : j + n ≤ N) :
    Calls Try.prog 91 #[.slice (some ⟨g, 0, none⟩) N cap, .int .i64 i, .int .i64 j, .int .i64 n, cb] s.w fun e w' => e = .returned (.tuple #[]) ∧ ∃ d', Exch i j n d d' ∧ ∃ s' : RowX w0 g d', w' = s'.w := by
  have HN := Lib.hid hN
  clear hN
  go_enter Try.func91, Try.ntmps91
  go_wp2
  go_loopw [10] (fun v wr => ∃ k : Nat, k ≤ n ∧ v = .int .i64 k ∧ ∃ dk, Hid (Exch i j k d dk) ∧ ∃ s : RowX w0 g dk, wr = s.w) (fun v _ => n - (intOf v).toNat)
  case atStart => exact ⟨0, by omega, rfl, d, Lib.hid (Exch.start i j d), s, rfl⟩
  case round =>
    obtain ⟨k, hk, rfl, dk, hx, s, rfl⟩ := hrel
    by_cases hlt : k < n
    · have hsz : dk.size = N := hx.out.size.trans HN.out
      obtain ⟨P, hP⟩ : ∃ P, P = i + k := ⟨_, rfl⟩
      obtain ⟨Q, hQ⟩ : ∃ Q, Q = j + k := ⟨_, rfl⟩
      have ra : IntKind.i64.wrap ((i : Int) + (k : Int)) = (P : Int) := by rw [IntKind.wrap_i64] <;> omega
      have rb : IntKind.i64.wrap ((j : Int) + (k : Int)) = (Q : Int) := by rw [IntKind.wrap_i64] <;> omega
      have l1 : P < N := by omega
      have l2 : Q < N := by omega
      have HP := Lib.hid hP
      have HQ := Lib.hid hQ
      clear hP hQ
      have mixed : Try.prog.follows .mixedOrders = true := by kernel_rfl
      have c1 := RowX.cell s (i := P) (by omega)
      have c2 := RowX.cell s (i := Q) (by omega)
      have f1 := RowX.free s P
      have f2 := RowX.free s Q
      obtain ⟨u, c3⟩ := RowX.cell2 s (i := P) (j := Q) (by omega) (by omega) (.int .i64 dk[Q]!)
      obtain ⟨x, hx1⟩ : ∃ x, x = dk[P]! := ⟨_, rfl⟩
      obtain ⟨y, hy1⟩ : ∃ y, y = dk[Q]! := ⟨_, rfl⟩
      obtain ⟨S', hs'⟩ := RowX.exch s P Q
      rw [← hx1, ← hy1] at hs'
      rw [← hx1] at c1
      rw [← hy1] at c2 c3
      have HSW := Lib.hid hs'
      clear hx1 hy1 hs'
      go_wp2_with fail
      go_big_region_o
      rw [HSW.out]
      obtain ⟨s2, hs2⟩ := S'.drewC
      rw [hs2]
      clear c1 c2 c3 f1 f2 HSW
      have HE : Hid (Exch i j (k + 1) d (swp dk P Q)) := Lib.hid (by rw [HP.out, HQ.out]; exact hx.out.step (by omega) (by rw [HN.out]; omega))
      clear ra rb
      go_wp2
      go_roundw
      case rel => exact ⟨k + 1, by omega, by go_num, _, HE, s2, rfl⟩
      case measure => simp [intOf]; omega
    · obtain rfl : k = n := by omega
      go_wp2
      go_end0
      exact ⟨rfl, dk, hx.out, s, rfl⟩

theorem insInner_stop {lt : Int → Int → Bool} {a j : Nat} {d : Array Int} (h : j ≤ a ∨ lt d[j]! d[j - 1]! = false) : insInner lt a j d = d := by
  cases j with
  | zero => rfl
  | succ j =>
    show (if _ then _ else _) = d
    rw [if_neg]
    simp only [Bool.and_eq_true, decide_eq_true_eq]
    intro ⟨h1, h2⟩
    rcases h with h | h
    · omega
    · rw [Nat.add_sub_cancel] at h; rw [h] at h2; cases h2
theorem insInner_go {lt : Int → Int → Bool} {a j : Nat} {d : Array Int} (h1 : a < j + 1) (h : lt d[j + 1]! d[j]! = true) : insInner lt a (j + 1) d = insInner lt a j (swp d (j + 1) j) := by
  show (if _ then _ else _) = _
  rw [if_pos]
  simp [h]; omega
theorem insOuter_go {lt : Int → Int → Bool} {a b i : Nat} {d : Array Int} (h : i < b) : insOuter lt a b i d = insOuter lt a b (i + 1) (insInner lt a i d) := by
  rw [insOuter, if_pos h]
theorem insOuter_stop {lt : Int → Int → Bool} {a b i : Nat} {d : Array Int} (h : ¬ i < b) : insOuter lt a b i d = d := by
  rw [insOuter, if_neg h]

set_option maxRecDepth 100000 in
set_option maxHeartbeats 4000000 in
theorem sinsert_any (cb : Nat) (lb : Array Value) (key : Int → Int) (E : Int → Prop) (g cap a b N : Nat) (d : Array Int) (w0 : World) (hc : CmpX w0 g N cb lb key E) (s : RowX w0 g d) (hN : d.size = N) (hb : N ≤ 4611686018427387903) (h1 : a ≤ b) (h2 : b ≤ N) (hE : AllE E d) :
    Calls Try.prog 88 #[.slice (some ⟨g, 0, none⟩) N cap, .int .i64 a, .int .i64 b, .func (.func cb) #[] lb] s.w fun e w' => e = .returned (.tuple #[]) ∧ ∃ d', PermIn a b d d' ∧ AscIn key a b d' ∧ ∃ s' : RowX w0 g d', w' = s'.w := by
  have HN := Lib.hid hN
  have HE := Lib.hid hE
  have HC := Lib.hid hc.calls
  have eg := hc.enters
  have mixed : Try.prog.follows .mixedOrders = true := by kernel_rfl
  clear hN hE hc
  go_enter Try.func88, Try.ntmps88
  go_wp2
  go_loopw [8] (fun v wr => ∃ i : Nat, a < i ∧ i ≤ b + 1 ∧ v = .int .i64 i ∧ ∃ dk, Hid (PermIn a b d dk ∧ insOuter (ltK key) a b i dk = insOuter (ltK key) a b (a + 1) d) ∧ ∃ s : RowX w0 g dk, wr = s.w) (fun v _ => b + 1 - (intOf v).toNat)
  case atStart => exact ⟨a + 1, by omega, by omega, by go_num, d, Lib.hid ⟨permIn_refl _ _ _, rfl⟩, s, rfl⟩
  case round =>
    obtain ⟨i, hai, hib, rfl, dk, hx, s, rfl⟩ := hrel
    by_cases hlt : i < b
    · go_wp2
      go_loopw [9] (fun v wr => ∃ j : Nat, a ≤ j ∧ j ≤ i ∧ v = .int .i64 j ∧ ∃ dj, Hid (PermIn a b d dj ∧ insInner (ltK key) a j dj = insInner (ltK key) a i dk) ∧ ∃ s : RowX w0 g dj, wr = s.w) (fun v _ => (intOf v).toNat)
      case atStart => exact ⟨i, by omega, by omega, rfl, dk, Lib.hid ⟨hx.out.1, rfl⟩, s, rfl⟩
      case round =>
        clear s
        obtain ⟨j, haj, hji, rfl, dj, hy, s, rfl⟩ := hrel
        have hsz : dj.size = N := hy.out.1.1.trans HN.out
        by_cases hja : a < j
        · obtain ⟨J, hJ⟩ : ∃ J, J + 1 = j := ⟨j - 1, by omega⟩
          have hEj := HE.out.perm (by have := HN.out; omega) hy.out.1
          have rj : IntKind.i64.wrap ((j : Int) - 1) = (J : Int) := by rw [IntKind.wrap_i64] <;> omega
          have dj1 : decide ((a : Int) < (j : Int)) = true := by simp; omega
          have l1 : j < N := by omega
          have l2 : J < N := by omega
          have hJa : a ≤ J := by omega
          have HJ := Lib.hid hJ
          clear hJ
          by_cases hk : key dj[j]! < key dj[J]!
          · have hstep : Hid (PermIn a b d (swp dj j J) ∧ insInner (ltK key) a J (swp dj j J) = insInner (ltK key) a i dk) := Lib.hid (by
              have e := HJ.out
              subst e
              exact ⟨permIn_trans _ _ _ _ _ hy.out.1 (swp_permIn _ _ _ _ _ (by omega) (by omega) (by omega) (by omega) (by omega)), by rw [← hy.out.2, insInner_go (by omega) (by simpa [ltK] using hk)]⟩)
            have c1 : ∀ s : RowX w0 g dj, s.w.cell? ⟨g, j, none⟩ = some (.int .i64 dj[j]!) := fun s => RowX.cell s (by omega)
            have c2 : ∀ s : RowX w0 g dj, s.w.cell? ⟨g, J, none⟩ = some (.int .i64 dj[J]!) := fun s => RowX.cell s (by omega)
            have hcall := fun s : RowX w0 g dj => HC.out dj s hsz dj[j]! dj[J]! (hEj _ (by omega)) (hEj _ (by omega))
            have hd : decide (cmpI (key dj[j]!) (key dj[J]!) < 0) = true := by rw [cmpI_lt]; simp; omega
            generalize cmpI (key dj[j]!) (key dj[J]!) = cv at hcall hd
            have HK := Lib.hid hk
            clear hk
            obtain ⟨x, hx1⟩ : ∃ x, x = dj[j]! := ⟨_, rfl⟩
            obtain ⟨y, hy1⟩ : ∃ y, y = dj[J]! := ⟨_, rfl⟩
            simp only [← hx1, ← hy1] at c1 c2 hcall
            clear hx1 hy1
            go_wp2_with fail
            refine wp_region_X s (by kernel_rfl) (by kernel_rfl) (fun hne => ?_)
            repeat (go_big_quiet_step ((go_at_fn cb; exact HeldX.call (hcall _))))
            refine wpQuiet_nil ?_
            rintro _ ⟨s2, rfl⟩
            clear hne c1 c2 hcall hd
            have c1 := RowX.cell s2 (i := j) (by omega)
            have c2 := RowX.cell s2 (i := J) (by omega)
            have f1 := RowX.free s2 j
            have f2 := RowX.free s2 J
            obtain ⟨u, c3⟩ := RowX.cell2 s2 (i := j) (j := J) (by omega) (by omega) (.int .i64 dj[J]!)
            obtain ⟨x, hx1⟩ : ∃ x, x = dj[j]! := ⟨_, rfl⟩
            obtain ⟨y, hy1⟩ : ∃ y, y = dj[J]! := ⟨_, rfl⟩
            obtain ⟨S', hs'⟩ := RowX.exch s2 j J
            rw [← hx1, ← hy1] at hs'
            rw [← hx1] at c1
            rw [← hy1] at c2 c3
            have HSW := Lib.hid hs'
            clear hx1 hy1 hs'
            go_wp2_with fail
            go_big_region_o
            rw [HSW.out]
            obtain ⟨s3, hs2⟩ := S'.drewC
            rw [hs2]
            clear c1 c2 c3 f1 f2 HSW
            go_wp2
            go_roundw
            case rel => exact ⟨J, hJa, by have := HJ.out; omega, by go_num, _, hstep, s3, rfl⟩
            case measure => have := HJ.out; simp [intOf]; omega
          · have hstep : Hid (PermIn a b d dj ∧ insOuter (ltK key) a b (i + 1) dj = insOuter (ltK key) a b (a + 1) d) := Lib.hid (by
              have e := HJ.out
              subst e
              refine ⟨hy.out.1, ?_⟩
              rw [← hx.out.2, insOuter_go hlt, ← hy.out.2, insInner_stop (.inr (by simpa [ltK] using hk))])
            have c1 : ∀ s : RowX w0 g dj, s.w.cell? ⟨g, j, none⟩ = some (.int .i64 dj[j]!) := fun s => RowX.cell s (by omega)
            have c2 : ∀ s : RowX w0 g dj, s.w.cell? ⟨g, J, none⟩ = some (.int .i64 dj[J]!) := fun s => RowX.cell s (by omega)
            have hcall := fun s : RowX w0 g dj => HC.out dj s hsz dj[j]! dj[J]! (hEj _ (by omega)) (hEj _ (by omega))
            have hd : decide (cmpI (key dj[j]!) (key dj[J]!) < 0) = false := by rw [cmpI_lt]; simp; omega
            generalize cmpI (key dj[j]!) (key dj[J]!) = cv at hcall hd
            have HK := Lib.hid hk
            clear hk
            obtain ⟨x, hx1⟩ : ∃ x, x = dj[j]! := ⟨_, rfl⟩
            obtain ⟨y, hy1⟩ : ∃ y, y = dj[J]! := ⟨_, rfl⟩
            simp only [← hx1, ← hy1] at c1 c2 hcall
            clear hx1 hy1
            go_wp2_with fail
            refine wp_region_X s (by kernel_rfl) (by kernel_rfl) (fun hne => ?_)
            repeat (go_big_quiet_step ((go_at_fn cb; exact HeldX.call (hcall _))))
            refine wpQuiet_nil ?_
            rintro _ ⟨s2, rfl⟩
            clear hne c1 c2 hcall hd
            go_wp2
            go_roundw
            case rel => exact ⟨i + 1, by omega, by omega, by go_num, _, hstep, s2, rfl⟩
            case measure => simp [intOf]; omega
        · have dj1 : decide ((a : Int) < (j : Int)) = false := by simp; omega
          have hstep : Hid (PermIn a b d dj ∧ insOuter (ltK key) a b (i + 1) dj = insOuter (ltK key) a b (a + 1) d) := Lib.hid (by
            refine ⟨hy.out.1, ?_⟩
            rw [← hx.out.2, insOuter_go hlt, ← hy.out.2, insInner_stop (.inl (by omega))])
          go_wp2_with fail
          go_big_region_o
          obtain ⟨s2, hs2⟩ := s.drewC
          rw [hs2]
          go_wp2
          go_roundw
          case rel => exact ⟨i + 1, by omega, by omega, by go_num, _, hstep, s2, rfl⟩
          case measure => simp [intOf]; omega
    · go_wp2
      go_end0
      have hr := hx.out.2
      rw [insOuter_stop hlt] at hr
      have hi := insertionSort_holds (swoK key) d a b h1 (by have := HN.out; omega)
      rw [show insertionSort (ltK key) d a b = dk from hr.symm] at hi
      exact ⟨rfl, dk, hi.1, ascIn_iff.1 hi.2, s, rfl⟩
end Go.Proofs.Ytgmjppjgbalapaa

namespace Go.Proofs.Ytgmjppjgbalapaa
open Go.RowKit Go.Sort
set_option linter.unusedVariables false
set_option linter.unusedSimpArgs false

set_option maxRecDepth 100000 in
set_option maxHeartbeats 4000000 in
theorem srotate_any (cb : Value) (g cap a m b N : Nat) (d : Array Int) (w0 : World) (s : RowX w0 g d) (hN : d.size = N) (hb : N ≤ 2305843009213693951) (h1 : a < m) (h2 : m < b) (h3 : b ≤ N) :
    Calls Try.prog 90 #[.slice (some ⟨g, 0, none⟩) N cap, .int .i64 a, .int .i64 m, .int .i64 b, cb] s.w fun e w' => e = .returned (.tuple #[]) ∧ ∃ d', Rot a m b d d' ∧ ∃ s' : RowX w0 g d', w' = s'.w := by
  have HN := Lib.hid hN
  clear hN
  obtain ⟨I0, hI0⟩ : ∃ I0, I0 = m - a := ⟨_, rfl⟩
  obtain ⟨J0, hJ0⟩ : ∃ J0, J0 = b - m := ⟨_, rfl⟩
  have r1 : IntKind.i64.wrap ((m : Int) - (a : Int)) = (I0 : Int) := by rw [IntKind.wrap_i64] <;> omega
  have r2 : IntKind.i64.wrap ((b : Int) - (m : Int)) = (J0 : Int) := by rw [IntKind.wrap_i64] <;> omega
  have hst : Hid (RotAt a m b I0 J0 d d) := Lib.hid (by rw [hI0, hJ0]; exact RotAt.start (by omega) (by omega) d)
  have p1 : 0 < I0 := by omega
  have p2 : 0 < J0 := by omega
  clear hI0 hJ0
  go_enter Try.func90, Try.ntmps90
  go_wp2
  go_loopw [10, 11] (fun u v wr => ∃ i j : Nat, 0 < i ∧ 0 < j ∧ u = .int .i64 i ∧ v = .int .i64 j ∧ ∃ dk, Hid (RotAt a m b i j d dk) ∧ ∃ s : RowX w0 g dk, wr = s.w) (fun u v _ => (intOf u).toNat + (intOf v).toNat)
  case atStart => exact ⟨I0, J0, p1, p2, rfl, rfl, d, hst, s, rfl⟩
  case round =>
    clear s r1 r2 hst p1 p2
    obtain ⟨i, j, hi, hj, rfl, rfl, dk, hx, s, rfl⟩ := hrel
    have hsz : dk.size = N := hx.out.perm.1.trans HN.out
    obtain ⟨q1, q2, q3⟩ : a ≤ m - i ∧ i ≤ m ∧ m + j ≤ b := ⟨hx.out.hi, hx.out.him, hx.out.hj⟩
    obtain ⟨P, hP⟩ : ∃ P, P = m - i := ⟨_, rfl⟩
    have ra : IntKind.i64.wrap ((m : Int) - (i : Int)) = (P : Int) := by rw [IntKind.wrap_i64] <;> omega
    rcases Nat.lt_trichotomy i j with hlt | rfl | hlt
    · have e1 : ((i : Int) != (j : Int)) = true := by simp; omega
      have e2 : ¬ j < i := by omega
      obtain ⟨Q, hQ⟩ : ∃ Q, Q = m + j - i := ⟨_, rfl⟩
      have rb : IntKind.i64.wrap ((m : Int) + (j : Int)) = (m : Int) + (j : Int) := by rw [IntKind.wrap_i64] <;> omega
      have rc : IntKind.i64.wrap ((m : Int) + (j : Int) - (i : Int)) = (Q : Int) := by rw [IntKind.wrap_i64] <;> omega
      obtain ⟨R, hR⟩ : ∃ R, R = j - i := ⟨_, rfl⟩
      have rd : IntKind.i64.wrap ((j : Int) - (i : Int)) = (R : Int) := by rw [IntKind.wrap_i64] <;> omega
      have hcall := sswap_any cb g cap P Q i N dk w0 s hsz (by omega) (by omega) (by omega)
      have HB : Hid (∀ dn, Exch P Q i dk dn → RotAt a m b i (j - i) d dn) := Lib.hid (fun dn he => hx.out.less (by omega) hlt (by have := HN.out; omega) (by rw [← hP, ← hQ]; exact he))
      have HP := Lib.hid hP
      have HQ := Lib.hid hQ
      have HR := Lib.hid hR
      have hR0 : 0 < R := by omega
      have HL := Lib.hid hlt
      clear hP hQ hR hlt
      go_wp2_with (go_at_call 91; refine hcall.mono ?_; rintro e _ ⟨rfl, dn, hx2, s2, rfl⟩)
      go_roundw
      case rel => exact ⟨i, R, hi, hR0, rfl, by go_num, dn, Lib.hid (by rw [HR.out]; exact HB.out dn hx2), s2, rfl⟩
      case measure => have := HR.out; have := HL.out; simp [intOf]; omega
    · have hcall := sswap_any cb g cap P m i N dk w0 s hsz (by omega) (by omega) (by omega)
      have HP := Lib.hid hP
      clear hP
      go_wp2_with (go_at_call 91; refine hcall.mono ?_; rintro e _ ⟨rfl, dn, hx2, s2, rfl⟩)
      go_end0
      exact ⟨rfl, dn, hx.out.last (by have := HN.out; omega) (by rw [← HP.out]; exact hx2), s2, rfl⟩
    · have e1 : ((i : Int) != (j : Int)) = true := by simp; omega
      have e2 : j < i := by omega
      obtain ⟨R, hR⟩ : ∃ R, R = i - j := ⟨_, rfl⟩
      have rd : IntKind.i64.wrap ((i : Int) - (j : Int)) = (R : Int) := by rw [IntKind.wrap_i64] <;> omega
      have hcall := sswap_any cb g cap P m j N dk w0 s hsz (by omega) (by omega) (by omega)
      have HB : Hid (∀ dn, Exch P m j dk dn → RotAt a m b (i - j) j d dn) := Lib.hid (fun dn he => hx.out.more (by omega) hlt (by have := HN.out; omega) (by rw [← hP]; exact he))
      have HP := Lib.hid hP
      have HR := Lib.hid hR
      have hR0 : 0 < R := by omega
      have HL := Lib.hid hlt
      clear hP hR hlt
      go_wp2_with (go_at_call 91; refine hcall.mono ?_; rintro e _ ⟨rfl, dn, hx2, s2, rfl⟩)
      go_roundw
      case rel => exact ⟨R, j, hR0, hj, by go_num, rfl, dn, Lib.hid (by rw [HR.out]; exact HB.out dn hx2), s2, rfl⟩
      case measure => have := HR.out; have := HL.out; simp [intOf]; omega

/-- What a merge gives. -/
def MergePost (key : Int → Int) (w0 : World) (g a b : Nat) (d : Array Int) (e : Ending) (w' : World) : Prop := e = .returned (.tuple #[]) ∧ ∃ d', PermIn a b d d' ∧ AscIn key a b d' ∧ ∃ s' : RowX w0 g d', w' = s'.w

set_option maxRecDepth 100000 in
set_option maxHeartbeats 4000000 in
theorem smerge_left (cb : Nat) (lb : Array Value) (key : Int → Int) (E : Int → Prop) (g cap N : Nat) (w0 : World) (hc : CmpX w0 g N cb lb key E) (hb : N ≤ 2305843009213693951) (a b : Nat) (d : Array Int) (s : RowX w0 g d) (hN : d.size = N) (hE : AllE E d)
    (h2 : a + 1 < b) (h3 : b ≤ N) (ha2 : AscIn key (a + 1) b d) : Calls Try.prog 89 #[.slice (some ⟨g, 0, none⟩) N cap, .int .i64 a, .int .i64 ((a + 1 : Nat) : Int), .int .i64 b, .func (.func cb) #[] lb] s.w (MergePost key w0 g a b d) := by
  have HN := Lib.hid hN
  have HC := Lib.hid hc.calls
  have eg := hc.enters
  have mixed : Try.prog.follows .mixedOrders = true := by kernel_rfl
  have hsz := hN
  have hEj := hE
  obtain ⟨m, hm⟩ : ∃ m, m = a + 1 := ⟨_, rfl⟩
  have HA := Lib.hid ha2
  rw [← hm]
  have rm : IntKind.i64.wrap ((m : Int) - (a : Int)) = 1 := by rw [IntKind.wrap_i64] <;> omega
  have l0 : a < N := by omega
  have lm : a < m := by omega
  have l1 : m < b := by omega
  have HM := Lib.hid hm
  have HE := Lib.hid hE
  clear hc hE hN ha2 hm h2
  go_enter Try.func89, Try.ntmps89
  go_wp2
  go_loopw [10, 11] (fun u v wr => ∃ i j : Nat, m ≤ i ∧ i ≤ j ∧ j ≤ b ∧ u = .int .i64 i ∧ v = .int .i64 j ∧ Hid ((∀ p, m ≤ p → p < i → key d[p]! < key d[a]!) ∧ (∀ p, j ≤ p → p < b → key d[a]! ≤ key d[p]!)) ∧ ∃ s : RowX w0 g d, wr = s.w) (fun u v _ => (intOf v).toNat - (intOf u).toNat)
  case atStart => exact ⟨m, b, by omega, by omega, by omega, rfl, rfl, Lib.hid ⟨fun p h1 h2 => by omega, fun p h1 h2 => by omega⟩, s, rfl⟩
  case round =>
    clear s
    obtain ⟨i, j, hmi, hij, hjb, rfl, rfl, hf, s, rfl⟩ := hrel
    by_cases hlt : i < j
    · obtain ⟨H, hH⟩ : ∃ H, H = (i + j) / 2 := ⟨_, rfl⟩
      have rh : ((i : Int) + (j : Int)) / 2 = (H : Int) := by omega
      have l3 : i ≤ H := by omega
      have l4 : H < j := by omega
      have HH := Lib.hid hH
      clear hH
      by_cases hk : key d[H]! < key d[a]!
      · have hstep : Hid ((∀ p, m ≤ p → p < H + 1 → key d[p]! < key d[a]!) ∧ (∀ p, j ≤ p → p < b → key d[a]! ≤ key d[p]!)) := Lib.hid ⟨fun p h1 h2 => by
          have := HA.out.le (i := p) (j := H) (by have := HM.out; omega) (by omega) (by omega)
          omega, hf.out.2⟩
        have c1 : ∀ s : RowX w0 g d, s.w.cell? ⟨g, H, none⟩ = some (.int .i64 d[H]!) := fun s => RowX.cell s (by omega)
        have c2 : ∀ s : RowX w0 g d, s.w.cell? ⟨g, a, none⟩ = some (.int .i64 d[a]!) := fun s => RowX.cell s (by omega)
        have hcall := fun s : RowX w0 g d => HC.out d s hsz d[H]! d[a]! (hEj _ (by omega)) (hEj _ (by omega))
        have hd : decide (cmpI (key d[H]!) (key d[a]!) < 0) = true := by rw [cmpI_lt]; simp; omega
        generalize cmpI (key d[H]!) (key d[a]!) = cv at hcall hd
        have HK := Lib.hid hk
        clear hk
        obtain ⟨x, hx1⟩ : ∃ x, x = d[H]! := ⟨_, rfl⟩
        obtain ⟨y, hy1⟩ : ∃ y, y = d[a]! := ⟨_, rfl⟩
        simp only [← hx1, ← hy1] at c1 c2 hcall
        clear hx1 hy1
        go_wp2_with fail
        refine wp_region_X s (by kernel_rfl) (by kernel_rfl) (fun hne => ?_)
        repeat (go_big_quiet_step ((go_at_fn cb; exact HeldX.call (hcall _))))
        refine wpQuiet_nil ?_
        rintro _ ⟨s2, rfl⟩
        clear hne c1 c2 hcall hd
        go_wp2
        go_roundw
        case rel => exact ⟨H + 1, j, by omega, by omega, by omega, by go_num, rfl, hstep, s2, rfl⟩
        case measure => simp [intOf]; omega
      · have hstep : Hid ((∀ p, m ≤ p → p < i → key d[p]! < key d[a]!) ∧ (∀ p, H ≤ p → p < b → key d[a]! ≤ key d[p]!)) := Lib.hid ⟨hf.out.1, fun p h1 h2 => by
          have := HA.out.le (i := H) (j := p) (by have := HM.out; omega) (by omega) (by omega)
          omega⟩
        have c1 : ∀ s : RowX w0 g d, s.w.cell? ⟨g, H, none⟩ = some (.int .i64 d[H]!) := fun s => RowX.cell s (by omega)
        have c2 : ∀ s : RowX w0 g d, s.w.cell? ⟨g, a, none⟩ = some (.int .i64 d[a]!) := fun s => RowX.cell s (by omega)
        have hcall := fun s : RowX w0 g d => HC.out d s hsz d[H]! d[a]! (hEj _ (by omega)) (hEj _ (by omega))
        have hd : decide (cmpI (key d[H]!) (key d[a]!) < 0) = false := by rw [cmpI_lt]; simp; omega
        generalize cmpI (key d[H]!) (key d[a]!) = cv at hcall hd
        have HK := Lib.hid hk
        clear hk
        obtain ⟨x, hx1⟩ : ∃ x, x = d[H]! := ⟨_, rfl⟩
        obtain ⟨y, hy1⟩ : ∃ y, y = d[a]! := ⟨_, rfl⟩
        simp only [← hx1, ← hy1] at c1 c2 hcall
        clear hx1 hy1
        go_wp2_with fail
        refine wp_region_X s (by kernel_rfl) (by kernel_rfl) (fun hne => ?_)
        repeat (go_big_quiet_step ((go_at_fn cb; exact HeldX.call (hcall _))))
        refine wpQuiet_nil ?_
        rintro _ ⟨s2, rfl⟩
        clear hne c1 c2 hcall hd
        go_wp2
        go_roundw
        case rel => exact ⟨i, H, by omega, by omega, by omega, rfl, by go_num, hstep, s2, rfl⟩
        case measure => simp [intOf]; omega
    · obtain rfl : i = j := by omega
      obtain ⟨I, hI⟩ : ∃ I, I + 1 = i := ⟨i - 1, by omega⟩
      have ri : IntKind.i64.wrap ((i : Int) - 1) = (I : Int) := by rw [IntKind.wrap_i64] <;> omega
      have lI : a ≤ I := by have := HM.out; omega
      have lI2 : I < b := by omega
      have HI := Lib.hid hI
      clear hI hij hlt
      go_wp2
      go_loopw [13] (fun v wr => ∃ k : Nat, a ≤ k ∧ k ≤ I ∧ v = .int .i64 k ∧ ∃ dk, Hid (Fwd a b k d dk) ∧ ∃ s : RowX w0 g dk, wr = s.w) (fun v _ => I - (intOf v).toNat)
      case atStart => exact ⟨a, by omega, lI, rfl, d, Lib.hid (Fwd.start a b d), s, rfl⟩
      case round =>
        clear s hsz hEj
        obtain ⟨k, hak, hki, rfl, dk, hw, s, rfl⟩ := hrel
        have hsz : dk.size = N := hw.out.perm.1.trans HN.out
        by_cases hlt : k < I
        · obtain ⟨K, hK⟩ : ∃ K, K = k + 1 := ⟨_, rfl⟩
          have rk : IntKind.i64.wrap ((k : Int) + 1) = (K : Int) := by rw [IntKind.wrap_i64] <;> omega
          have l5 : k < N := by omega
          have l6 : K < N := by omega
          have hstep : Hid (Fwd a b K d (swp dk k K)) := Lib.hid (by rw [hK]; exact hw.out.step hak (by omega) (by have := HN.out; omega))
          have lK : K ≤ I := by omega
          have lK2 : a ≤ K := by omega
          have HK2 := Lib.hid hK
          clear hK
          have c1 := RowX.cell s (i := k) (by omega)
          have c2 := RowX.cell s (i := K) (by omega)
          have f1 := RowX.free s k
          have f2 := RowX.free s K
          obtain ⟨u, c3⟩ := RowX.cell2 s (i := k) (j := K) (by omega) (by omega) (.int .i64 dk[K]!)
          obtain ⟨x, hx1⟩ : ∃ x, x = dk[k]! := ⟨_, rfl⟩
          obtain ⟨y, hy1⟩ : ∃ y, y = dk[K]! := ⟨_, rfl⟩
          obtain ⟨S', hs'⟩ := RowX.exch s k K
          rw [← hx1, ← hy1] at hs'
          rw [← hx1] at c1
          rw [← hy1] at c2 c3
          have HSW := Lib.hid hs'
          clear hx1 hy1 hs'
          go_wp2_with fail
          go_big_region_o
          rw [HSW.out]
          obtain ⟨s2, hs2⟩ := S'.drewC
          rw [hs2]
          clear c1 c2 c3 f1 f2 HSW
          go_wp2
          go_roundw
          case rel => exact ⟨K, lK2, lK, by go_num, _, hstep, s2, rfl⟩
          case measure => have := HK2.out; simp [intOf]; omega
        · obtain rfl : k = I := by omega
          go_wp2
          go_end0
          exact ⟨rfl, dk, hw.out.perm, hw.out.asc hak HI.out hjb HA.out (fun p h1 h2 => hf.out.1 p (by have := HM.out; omega) h2) hf.out.2, s, rfl⟩

set_option maxRecDepth 100000 in
set_option maxHeartbeats 4000000 in
theorem smerge_right (cb : Nat) (lb : Array Value) (key : Int → Int) (E : Int → Prop) (g cap N : Nat) (w0 : World) (hc : CmpX w0 g N cb lb key E) (hb : N ≤ 2305843009213693951) (a m b : Nat) (d : Array Int) (s : RowX w0 g d) (hN : d.size = N) (hE : AllE E d)
    (h2 : a + 1 < m) (hm : b = m + 1) (h3 : b ≤ N) (ha1 : AscIn key a m d) : Calls Try.prog 89 #[.slice (some ⟨g, 0, none⟩) N cap, .int .i64 a, .int .i64 m, .int .i64 b, .func (.func cb) #[] lb] s.w (MergePost key w0 g a b d) := by
  have HN := Lib.hid hN
  have HC := Lib.hid hc.calls
  have eg := hc.enters
  have mixed : Try.prog.follows .mixedOrders = true := by kernel_rfl
  have hsz := hN
  have hEj := hE
  have HA := Lib.hid ha1
  obtain ⟨M1, hM1⟩ : ∃ M1, M1 = m - a := ⟨_, rfl⟩
  have rm0 : IntKind.i64.wrap ((m : Int) - (a : Int)) = (M1 : Int) := by rw [IntKind.wrap_i64] <;> omega
  have rm1 : ((M1 : Int) == 1) = false := by simp; omega
  have rm : IntKind.i64.wrap ((b : Int) - (m : Int)) = 1 := by rw [IntKind.wrap_i64] <;> omega
  have l0 : m < N := by omega
  have l1 : a < m := by omega
  have HM := Lib.hid hm
  have HE := Lib.hid hE
  clear hc hE hN ha1 hm h2 hM1
  go_enter Try.func89, Try.ntmps89
  go_wp2
  go_loopw [14, 15] (fun u v wr => ∃ i j : Nat, a ≤ i ∧ i ≤ j ∧ j ≤ m ∧ u = .int .i64 i ∧ v = .int .i64 j ∧ Hid ((∀ p, a ≤ p → p < i → key d[p]! ≤ key d[m]!) ∧ (∀ p, j ≤ p → p < m → key d[m]! < key d[p]!)) ∧ ∃ s : RowX w0 g d, wr = s.w) (fun u v _ => (intOf v).toNat - (intOf u).toNat)
  case atStart => exact ⟨a, m, by omega, by omega, by omega, rfl, rfl, Lib.hid ⟨fun p h1 h2 => by omega, fun p h1 h2 => by omega⟩, s, rfl⟩
  case round =>
    clear s
    obtain ⟨i, j, hmi, hij, hjb, rfl, rfl, hf, s, rfl⟩ := hrel
    by_cases hlt : i < j
    · obtain ⟨H, hH⟩ : ∃ H, H = (i + j) / 2 := ⟨_, rfl⟩
      have rh : ((i : Int) + (j : Int)) / 2 = (H : Int) := by omega
      have l3 : i ≤ H := by omega
      have l4 : H < j := by omega
      have HH := Lib.hid hH
      clear hH
      by_cases hk : key d[m]! < key d[H]!
      · have hstep : Hid ((∀ p, a ≤ p → p < i → key d[p]! ≤ key d[m]!) ∧ (∀ p, H ≤ p → p < m → key d[m]! < key d[p]!)) := Lib.hid ⟨hf.out.1, fun p h1 h2 => by
          have := HA.out.le (i := H) (j := p) (by omega) (by omega) (by omega)
          omega⟩
        have c1 : ∀ s : RowX w0 g d, s.w.cell? ⟨g, m, none⟩ = some (.int .i64 d[m]!) := fun s => RowX.cell s (by omega)
        have c2 : ∀ s : RowX w0 g d, s.w.cell? ⟨g, H, none⟩ = some (.int .i64 d[H]!) := fun s => RowX.cell s (by omega)
        have hcall := fun s : RowX w0 g d => HC.out d s hsz d[m]! d[H]! (hEj _ (by omega)) (hEj _ (by omega))
        have hd : decide (cmpI (key d[m]!) (key d[H]!) < 0) = true := by rw [cmpI_lt]; simp; omega
        generalize cmpI (key d[m]!) (key d[H]!) = cv at hcall hd
        have HK := Lib.hid hk
        clear hk
        obtain ⟨x, hx1⟩ : ∃ x, x = d[m]! := ⟨_, rfl⟩
        obtain ⟨y, hy1⟩ : ∃ y, y = d[H]! := ⟨_, rfl⟩
        simp only [← hx1, ← hy1] at c1 c2 hcall
        clear hx1 hy1
        go_wp2_with fail
        refine wp_region_X s (by kernel_rfl) (by kernel_rfl) (fun hne => ?_)
        repeat (go_big_quiet_step ((go_at_fn cb; exact HeldX.call (hcall _))))
        refine wpQuiet_nil ?_
        rintro _ ⟨s2, rfl⟩
        clear hne c1 c2 hcall hd
        go_wp2
        go_roundw
        case rel => exact ⟨i, H, by omega, by omega, by omega, rfl, by go_num, hstep, s2, rfl⟩
        case measure => simp [intOf]; omega
      · have hstep : Hid ((∀ p, a ≤ p → p < H + 1 → key d[p]! ≤ key d[m]!) ∧ (∀ p, j ≤ p → p < m → key d[m]! < key d[p]!)) := Lib.hid ⟨fun p h1 h2 => by
          have := HA.out.le (i := p) (j := H) (by omega) (by omega) (by omega)
          omega, hf.out.2⟩
        have c1 : ∀ s : RowX w0 g d, s.w.cell? ⟨g, m, none⟩ = some (.int .i64 d[m]!) := fun s => RowX.cell s (by omega)
        have c2 : ∀ s : RowX w0 g d, s.w.cell? ⟨g, H, none⟩ = some (.int .i64 d[H]!) := fun s => RowX.cell s (by omega)
        have hcall := fun s : RowX w0 g d => HC.out d s hsz d[m]! d[H]! (hEj _ (by omega)) (hEj _ (by omega))
        have hd : decide (cmpI (key d[m]!) (key d[H]!) < 0) = false := by rw [cmpI_lt]; simp; omega
        generalize cmpI (key d[m]!) (key d[H]!) = cv at hcall hd
        have HK := Lib.hid hk
        clear hk
        obtain ⟨x, hx1⟩ : ∃ x, x = d[m]! := ⟨_, rfl⟩
        obtain ⟨y, hy1⟩ : ∃ y, y = d[H]! := ⟨_, rfl⟩
        simp only [← hx1, ← hy1] at c1 c2 hcall
        clear hx1 hy1
        go_wp2_with fail
        refine wp_region_X s (by kernel_rfl) (by kernel_rfl) (fun hne => ?_)
        repeat (go_big_quiet_step ((go_at_fn cb; exact HeldX.call (hcall _))))
        refine wpQuiet_nil ?_
        rintro _ ⟨s2, rfl⟩
        clear hne c1 c2 hcall hd
        go_wp2
        go_roundw
        case rel => exact ⟨H + 1, j, by omega, by omega, by omega, by go_num, rfl, hstep, s2, rfl⟩
        case measure => simp [intOf]; omega
    · obtain rfl : i = j := by omega
      clear hij hlt
      go_wp2
      go_loopw [17] (fun v wr => ∃ k : Nat, i ≤ k ∧ k ≤ m ∧ v = .int .i64 k ∧ ∃ dk, Hid (Bwd a b m k d dk) ∧ ∃ s : RowX w0 g dk, wr = s.w) (fun v _ => (intOf v).toNat)
      case atStart => exact ⟨m, hjb, Nat.le_refl _, rfl, d, Lib.hid (Bwd.start a b m d), s, rfl⟩
      case round =>
        clear s hsz hEj
        obtain ⟨k, hak, hki, rfl, dk, hw, s, rfl⟩ := hrel
        have hsz : dk.size = N := hw.out.perm.1.trans HN.out
        by_cases hlt : i < k
        · obtain ⟨K, hK⟩ : ∃ K, k = K + 1 := ⟨k - 1, by omega⟩
          have rk : IntKind.i64.wrap ((k : Int) - 1) = (K : Int) := by rw [IntKind.wrap_i64] <;> omega
          have l5 : k < N := by omega
          have l6 : K < N := by omega
          have hstep : Hid (Bwd a b m K d (swp dk k K)) := Lib.hid (by
            have hw2 := hw.out
            rw [hK] at hw2 ⊢
            exact hw2.step (by omega) (by omega) (by have := HM.out; omega) (by have := HN.out; omega))
          have lK : K ≤ m := by omega
          have lK2 : i ≤ K := by omega
          have HK2 := Lib.hid hK
          clear hK
          have c1 := RowX.cell s (i := k) (by omega)
          have c2 := RowX.cell s (i := K) (by omega)
          have f1 := RowX.free s k
          have f2 := RowX.free s K
          obtain ⟨u, c3⟩ := RowX.cell2 s (i := k) (j := K) (by omega) (by omega) (.int .i64 dk[K]!)
          obtain ⟨x, hx1⟩ : ∃ x, x = dk[k]! := ⟨_, rfl⟩
          obtain ⟨y, hy1⟩ : ∃ y, y = dk[K]! := ⟨_, rfl⟩
          obtain ⟨S', hs'⟩ := RowX.exch s k K
          rw [← hx1, ← hy1] at hs'
          rw [← hx1] at c1
          rw [← hy1] at c2 c3
          have HSW := Lib.hid hs'
          clear hx1 hy1 hs'
          go_wp2_with fail
          go_big_region_o
          rw [HSW.out]
          obtain ⟨s2, hs2⟩ := S'.drewC
          rw [hs2]
          clear c1 c2 c3 f1 f2 HSW
          go_wp2
          go_roundw
          case rel => exact ⟨K, lK2, lK, by go_num, _, hstep, s2, rfl⟩
          case measure => have := HK2.out; simp [intOf]; omega
        · obtain rfl : k = i := by omega
          go_wp2
          go_end0
          exact ⟨rfl, dk, hw.out.perm, hw.out.asc HM.out.symm hmi hki HA.out hf.out.1 hf.out.2, s, rfl⟩
end Go.Proofs.Ytgmjppjgbalapaa

namespace Go.Proofs.Ytgmjppjgbalapaa
open Go.RowKit Go.Sort
set_option linter.unusedVariables false
set_option linter.unusedSimpArgs false

set_option maxRecDepth 100000 in
set_option maxHeartbeats 16000000 in
theorem smerge_big (cb : Nat) (lb : Array Value) (key : Int → Int) (E : Int → Prop) (g cap N : Nat) (w0 : World) (hc : CmpX w0 g N cb lb key E) (hb : N ≤ 2305843009213693951) (a m b : Nat) (d : Array Int) (s : RowX w0 g d) (hN : d.size = N) (hE : AllE E d)
    (h1 : a + 1 < m) (h2 : m + 1 < b) (h3 : b ≤ N) (ha1 : AscIn key a m d) (ha2 : AscIn key m b d)
    (IH : ∀ (a' m' b' : Nat) (d' : Array Int) (s' : RowX w0 g d'), b' - a' < b - a → d'.size = N → AllE E d' → a' < m' → m' < b' → b' ≤ N → AscIn key a' m' d' → AscIn key m' b' d' →
      Calls Try.prog 89 #[.slice (some ⟨g, 0, none⟩) N cap, .int .i64 a', .int .i64 m', .int .i64 b', .func (.func cb) #[] lb] s'.w (MergePost key w0 g a' b' d')) :
    Calls Try.prog 89 #[.slice (some ⟨g, 0, none⟩) N cap, .int .i64 a, .int .i64 m, .int .i64 b, .func (.func cb) #[] lb] s.w (MergePost key w0 g a b d) := by
  have HN := Lib.hid hN
  have HC := Lib.hid hc.calls
  have eg := hc.enters
  have mixed : Try.prog.follows .mixedOrders = true := by kernel_rfl
  have hsz := hN
  have hEj := hE
  have HA1 := Lib.hid ha1
  have HA2 := Lib.hid ha2
  have HIH := Lib.hid IH
  have HE := Lib.hid hE
  obtain ⟨M1, hM1⟩ : ∃ M1, M1 = m - a := ⟨_, rfl⟩
  have rm0 : IntKind.i64.wrap ((m : Int) - (a : Int)) = (M1 : Int) := by rw [IntKind.wrap_i64] <;> omega
  have rm1 : ((M1 : Int) == 1) = false := by simp; omega
  obtain ⟨M2, hM2⟩ : ∃ M2, M2 = b - m := ⟨_, rfl⟩
  have rm2 : IntKind.i64.wrap ((b : Int) - (m : Int)) = (M2 : Int) := by rw [IntKind.wrap_i64] <;> omega
  have rm3 : ((M2 : Int) == 1) = false := by simp; omega
  obtain ⟨mid, hmid⟩ : ∃ mid, mid = (a + b) / 2 := ⟨_, rfl⟩
  have rmid : ((a : Int) + (b : Int)) / 2 = (mid : Int) := by omega
  have lmid : mid ≤ N := by omega
  obtain ⟨n, hn⟩ : ∃ n, n = mid + m := ⟨_, rfl⟩
  have rn : (mid : Int) + (m : Int) = (n : Int) := by omega
  have ln : n ≤ 4611686018427387903 := by omega
  obtain ⟨Pn, hPn⟩ : ∃ Pn, Pn + 1 = n := ⟨n - 1, by omega⟩
  have rp : (n : Int) - 1 = (Pn : Int) := by omega
  obtain ⟨L, hL⟩ : ∃ L, L = symLo a m b mid := ⟨_, rfl⟩
  obtain ⟨R, hR⟩ : ∃ R, R = symHi m mid := ⟨_, rfl⟩
  have hmm : 2 * mid = a + b ∨ 2 * mid + 1 = a + b := by omega
  have HMM := Lib.hid hmm
  have hst : Hid (SymAt key a m b mid L R d) := Lib.hid (by rw [hL, hR]; exact SymAt.start (by omega) (by omega) hmm)
  have hpost : Hid (∀ w', (∃ d', PermIn a b d d' ∧ AscIn key a b d' ∧ ∃ s' : RowX w0 g d', w' = s'.w) → MergePost key w0 g a b d (.returned (.tuple #[])) w') := Lib.hid fun w' h => ⟨rfl, h⟩
  have k1 : a < m := by omega
  have k2 : m < b := by omega
  have k3 : mid ≤ N := by omega
  have k4 : a < mid := by omega
  have k5 : mid < b := by omega
  have HNn := Lib.hid hn
  have HPn := Lib.hid hPn
  have hcase : (mid < m ∧ (n : Int) - (b : Int) = (L : Int) ∧ Hid (mid = R)) ∨ (¬ mid < m ∧ Hid (a = L) ∧ Hid (m = R)) := by
    by_cases c : mid < m
    · left
      unfold symLo at hL
      unfold symHi at hR
      rw [if_pos c] at hL hR
      refine ⟨c, ?_, Lib.hid hR.symm⟩
      omega
    · right
      unfold symLo at hL
      unfold symHi at hR
      rw [if_neg c] at hL hR
      exact ⟨c, Lib.hid hL.symm, Lib.hid hR.symm⟩
  have HL := Lib.hid hL
  have HR := Lib.hid hR
  have HID := Lib.hid IH
  clear hc hE hN ha1 ha2 hM1 hM2 hmid hn hPn hL hR hmm IH h1 h2
  go_enter Try.func89, Try.ntmps89
  rcases hcase with ⟨c0, rl, rr⟩ | ⟨c0, rl, rr⟩
  all_goals
    go_wp2
    go_loopw [20, 21] (fun u v wr => ∃ l r : Nat, u = .int .i64 l ∧ v = .int .i64 r ∧ Hid (SymAt key a m b mid l r d) ∧ ∃ s : RowX w0 g d, wr = s.w) (fun u v _ => (intOf v).toNat - (intOf u).toNat)
    case atStart => first | exact ⟨L, R, rfl, by rw [rr.out], hst, s, rfl⟩ | exact ⟨L, R, by rw [rl.out], by rw [rr.out], hst, s, rfl⟩
    case round =>
      clear s rl rr hst rmid rn rp rm0 rm1 rm2 rm3
      obtain ⟨l, r, rfl, rfl, hs, s, rfl⟩ := hrel
      obtain ⟨lr, llo, lhi⟩ : l ≤ r ∧ symLo a m b mid ≤ l ∧ r ≤ symHi m mid := ⟨hs.out.lr, hs.out.lo, hs.out.hi⟩
      have HLO := Lib.hid llo
      have HHI := Lib.hid lhi
      clear llo lhi
      have hrN : r ≤ N := by
        have := HHI.out
        unfold symHi at this
        split at this <;> omega
      by_cases hlt : l < r
      · obtain ⟨C, hC⟩ : ∃ C, C = (l + r) / 2 := ⟨_, rfl⟩
        have rh : ((l : Int) + (r : Int)) / 2 = (C : Int) := by omega
        have l3 : l ≤ C := by omega
        have l4 : C < r := by omega
        have hsc := sym_c k1 k2 HMM.out (Nat.le_trans HLO.out l3) (Nat.lt_of_lt_of_le l4 HHI.out)
        obtain ⟨Q, hQ⟩ : ∃ Q, Q = mid + m - 1 - C := ⟨_, rfl⟩
        have rq : (Pn : Int) - (C : Int) = (Q : Int) := by have := HNn.out; have := HPn.out; omega
        have l5 : C < N := by omega
        have l6 : Q < N := by omega
        have HQ := Lib.hid hQ
        clear hQ hsc hC
        by_cases hk : key d[Q]! < key d[C]!
        · have hstep : Hid (SymAt key a m b mid l C d) := Lib.hid (hs.out.down l3 l4 (by rw [← HQ.out]; exact hk))
          have c1 : ∀ s : RowX w0 g d, s.w.cell? ⟨g, Q, none⟩ = some (.int .i64 d[Q]!) := fun s => RowX.cell s (by omega)
          have c2 : ∀ s : RowX w0 g d, s.w.cell? ⟨g, C, none⟩ = some (.int .i64 d[C]!) := fun s => RowX.cell s (by omega)
          have hcall := fun s : RowX w0 g d => HC.out d s hsz d[Q]! d[C]! (hEj _ (by omega)) (hEj _ (by omega))
          have hd : decide (cmpI (key d[Q]!) (key d[C]!) < 0) = true := by rw [cmpI_lt]; simp; omega
          generalize cmpI (key d[Q]!) (key d[C]!) = cv at hcall hd
          have HK := Lib.hid hk
          clear hk
          obtain ⟨x, hx1⟩ : ∃ x, x = d[Q]! := ⟨_, rfl⟩
          obtain ⟨y, hy1⟩ : ∃ y, y = d[C]! := ⟨_, rfl⟩
          simp only [← hx1, ← hy1] at c1 c2 hcall
          clear hx1 hy1
          go_wp2_with fail
          refine wp_region_X s (by kernel_rfl) (by kernel_rfl) (fun hne => ?_)
          repeat (go_big_quiet_step ((go_at_fn cb; exact HeldX.call (hcall _))))
          refine wpQuiet_nil ?_
          rintro _ ⟨s2, rfl⟩
          clear hne c1 c2 hcall hd
          go_wp2
          go_roundw
          case rel => exact ⟨l, C, rfl, by go_num, hstep, s2, rfl⟩
          case measure => simp [intOf]; omega
        · have hstep : Hid (SymAt key a m b mid (C + 1) r d) := Lib.hid (hs.out.up l3 l4 (by rw [← HQ.out]; omega))
          have c1 : ∀ s : RowX w0 g d, s.w.cell? ⟨g, Q, none⟩ = some (.int .i64 d[Q]!) := fun s => RowX.cell s (by omega)
          have c2 : ∀ s : RowX w0 g d, s.w.cell? ⟨g, C, none⟩ = some (.int .i64 d[C]!) := fun s => RowX.cell s (by omega)
          have hcall := fun s : RowX w0 g d => HC.out d s hsz d[Q]! d[C]! (hEj _ (by omega)) (hEj _ (by omega))
          have hd : decide (cmpI (key d[Q]!) (key d[C]!) < 0) = false := by rw [cmpI_lt]; simp; omega
          generalize cmpI (key d[Q]!) (key d[C]!) = cv at hcall hd
          have HK := Lib.hid hk
          clear hk
          obtain ⟨x, hx1⟩ : ∃ x, x = d[Q]! := ⟨_, rfl⟩
          obtain ⟨y, hy1⟩ : ∃ y, y = d[C]! := ⟨_, rfl⟩
          simp only [← hx1, ← hy1] at c1 c2 hcall
          clear hx1 hy1
          go_wp2_with fail
          refine wp_region_X s (by kernel_rfl) (by kernel_rfl) (fun hne => ?_)
          repeat (go_big_quiet_step ((go_at_fn cb; exact HeldX.call (hcall _))))
          refine wpQuiet_nil ?_
          rintro _ ⟨s2, rfl⟩
          clear hne c1 c2 hcall hd
          go_wp2
          go_roundw
          case rel => exact ⟨C + 1, r, by go_num, rfl, hstep, s2, rfl⟩
          case measure => simp [intOf]; omega
      · obtain rfl : l = r := by omega
        obtain ⟨st, hst⟩ : ∃ st, st = l := ⟨_, rfl⟩
        subst hst
        have hy := sym_of k1 k2 HMM.out HLO.out HHI.out
        obtain ⟨f1, f2⟩ := hs.out.ends k1 k2 HMM.out HA1.out HA2.out
        obtain ⟨En, hEn⟩ : ∃ En, En = mid + m - st := ⟨_, rfl⟩
        obtain ⟨_, _, _, y1, y2, y3, y4, y5, y6⟩ := id hy
        rw [← hEn] at y4 y5 y6
        have re : (n : Int) - (st : Int) = (En : Int) := by have := HNn.out; omega
        have eqs : (st = m → En = mid) ∧ (En = m → st = mid) := by omega
        have HH0 : Hid (∀ d1, Rot st m En d d1 → Half key a m b mid st d1 ∧ PermIn a b d d1) := Lib.hid fun d1 h => ⟨half_of hy HA1.out HA2.out f1 f2 (by rw [← hEn]; exact h), permIn_mono _ _ _ _ _ _ y1 y6 (by omega) h.perm⟩
        have HEN := Lib.hid hEn
        clear f1 f2 hy hEn hlt
        rcases (show (st < m ∧ m < En) ∨ (¬ st < m) ∨ (st < m ∧ ¬ m < En) by omega) with ⟨q1, q2⟩ | q1 | ⟨q1, q2⟩
        focus
          have hcall := srotate_any (.func (.func cb) #[] lb) g cap st m En N d w0 s hsz hb q1 q2 (by omega)
          go_wp2_with fail
          refine hcall.mono ?_
          rintro e _ ⟨rfl, d1, hr, s1, rfl⟩
          clear hcall s
          have HH1 : Hid (Half key a m b mid st d1 ∧ PermIn a b d d1) := Lib.hid (HH0.out d1 hr)
          clear hr
        rotate_left 1
        focus
          obtain ⟨d1, s1, hs1, HH1⟩ : ∃ d1, ∃ s1 : RowX w0 g d1, s.w = s1.w ∧ Hid (Half key a m b mid st d1 ∧ PermIn a b d d1) := ⟨d, s, rfl, Lib.hid (HH0.out d (rot_refl (by omega) (by omega) (by omega)))⟩
          rw [hs1]
          clear hs1 s
        rotate_left 1
        focus
          obtain ⟨d1, s1, hs1, HH1⟩ : ∃ d1, ∃ s1 : RowX w0 g d1, s.w = s1.w ∧ Hid (Half key a m b mid st d1 ∧ PermIn a b d d1) := ⟨d, s, rfl, Lib.hid (HH0.out d (rot_refl (by omega) (by omega) (by omega)))⟩
          rw [hs1]
          clear hs1 s
        rotate_left 1
        all_goals
          have hz1 : d1.size = N := HH1.out.2.1.trans hsz
          have hE1 : Hid (AllE E d1) := Lib.hid (HE.out.perm (by omega) HH1.out.2)
          clear HH0
          rcases (show (a < st ∧ st < mid) ∨ (¬ a < st) ∨ (a < st ∧ ¬ st < mid) by omega) with ⟨u1, u2⟩ | u1 | ⟨u1, u2⟩
          focus
            have hcall := HIH.out a st mid d1 s1 (by omega) hz1 hE1.out u1 u2 k3 HH1.out.1.q1 HH1.out.1.q2
            go_wp2_with fail
            refine hcall.mono ?_
            rintro e _ ⟨rfl, d2, hp2, ha2, s2, rfl⟩
            clear hcall s1
            have HH2 : Hid (PermIn a mid d1 d2 ∧ AscIn key a mid d2) := Lib.hid ⟨hp2, ha2⟩
            clear hp2 ha2
          rotate_left 1
          focus
            obtain ⟨d2, s2, hs2, HH2⟩ : ∃ d2, ∃ s2 : RowX w0 g d2, s1.w = s2.w ∧ Hid (PermIn a mid d1 d2 ∧ AscIn key a mid d2) := ⟨d1, s1, rfl, Lib.hid ⟨permIn_refl _ _ _, by
              obtain rfl : a = st := by omega
              exact HH1.out.1.q2⟩⟩
            rw [hs2]
            clear hs2 s1
          rotate_left 1
          focus
            obtain ⟨d2, s2, hs2, HH2⟩ : ∃ d2, ∃ s2 : RowX w0 g d2, s1.w = s2.w ∧ Hid (PermIn a mid d1 d2 ∧ AscIn key a mid d2) := ⟨d1, s1, rfl, Lib.hid ⟨permIn_refl _ _ _, HH1.out.1.q1.sub (Nat.le_refl _) (by omega)⟩⟩
            rw [hs2]
            clear hs2 s1
          rotate_left 1
        all_goals
          have hz2 : d2.size = N := HH2.out.1.1.trans hz1
          have hE2 : Hid (AllE E d2) := Lib.hid (hE1.out.perm (by omega) HH2.out.1)
          have HF : Hid (∀ d3, PermIn mid b d2 d3 → AscIn key mid b d3 → PermIn a b d d3 ∧ AscIn key a b d3) := Lib.hid fun d3 h h' => ⟨permIn_trans _ _ _ _ _ HH1.out.2 (permIn_trans _ _ _ _ _ (permIn_mono _ _ _ _ _ _ (Nat.le_refl _) (by omega) (by omega) HH2.out.1) (permIn_mono _ _ _ _ _ _ (by omega) (Nat.le_refl _) (by omega) h)), HH1.out.1.asc (by omega) (by omega) (by omega) HH2.out.1 HH2.out.2 h h'⟩
          have HQ3 : Hid (AscIn key mid En d2 ∧ AscIn key En b d2) := Lib.hid ⟨by rw [HEN.out]; exact HH1.out.1.q3.congr fun p p1 p2 => HH2.out.1.2.1 p (.inr p1), by rw [HEN.out]; exact HH1.out.1.q4.congr fun p p1 p2 => HH2.out.1.2.1 p (.inr (by have := HEN.out; omega))⟩
          rcases (show (mid < En ∧ En < b) ∨ (¬ mid < En) ∨ (mid < En ∧ ¬ En < b) by omega) with ⟨v1, v2⟩ | v1 | ⟨v1, v2⟩
          · have hcall := HIH.out mid En b d2 s2 (by omega) hz2 hE2.out v1 v2 h3 HQ3.out.1 HQ3.out.2
            go_wp2_with fail
            refine hcall.mono ?_
            rintro e _ ⟨rfl, d3, hp3, ha3, s3, rfl⟩
            clear hcall s2
            have HH3 := Lib.hid (HF.out d3 hp3 ha3)
            clear hp3 ha3
            go_wp2
            go_end0
            exact hpost.out _ ⟨d3, HH3.out.1, HH3.out.2, s3, rfl⟩
          · have HH3 := Lib.hid (HF.out d2 (permIn_refl _ _ _) (by
              obtain rfl : mid = En := by omega
              exact HQ3.out.2))
            go_wp2
            go_end0
            exact hpost.out _ ⟨d2, HH3.out.1, HH3.out.2, s2, rfl⟩
          · have HH3 := Lib.hid (HF.out d2 (permIn_refl _ _ _) (HQ3.out.1.sub (Nat.le_refl _) (by omega)))
            go_wp2
            go_end0
            exact hpost.out _ ⟨d2, HH3.out.1, HH3.out.2, s2, rfl⟩

theorem smerge_any (cb : Nat) (lb : Array Value) (key : Int → Int) (E : Int → Prop) (g cap N : Nat) (w0 : World) (hc : CmpX w0 g N cb lb key E) (hb : N ≤ 2305843009213693951) : ∀ (k a m b : Nat) (d : Array Int) (s : RowX w0 g d), b - a < k → d.size = N → AllE E d → a < m → m < b → b ≤ N → AscIn key a m d → AscIn key m b d →
    Calls Try.prog 89 #[.slice (some ⟨g, 0, none⟩) N cap, .int .i64 a, .int .i64 m, .int .i64 b, .func (.func cb) #[] lb] s.w (MergePost key w0 g a b d) := by
  intro k
  induction k with
  | zero => intro a m b d s h; omega
  | succ k ih =>
    intro a m b d s h hN hE h1 h2 h3 ha1 ha2
    by_cases c1 : m = a + 1
    · subst c1
      exact smerge_left cb lb key E g cap N w0 hc hb a b d s hN hE h2 h3 ha2
    · by_cases c2 : b = m + 1
      · exact smerge_right cb lb key E g cap N w0 hc hb a m b d s hN hE (by omega) c2 h3 ha1
      · exact smerge_big cb lb key E g cap N w0 hc hb a m b d s hN hE (by omega) (by omega) h3 ha1 ha2 (fun a' m' b' d' s' hlt hN' hE' h1' h2' h3' x1 x2 => ih a' m' b' d' s' (by omega) hN' hE' h1' h2' h3' x1 x2)
end Go.Proofs.Ytgmjppjgbalapaa

namespace Go.Proofs.Ytgmjppjgbalapaa
open Go.RowKit Go.Sort
set_option linter.unusedVariables false
set_option linter.unusedSimpArgs false

theorem Blocks.start {key : Int → Int} {bs n : Nat} {d : Array Int} (h : Blocks key 0 bs n d) : Blocks key (0 * (2 * bs)) bs n d := by rw [Nat.zero_mul]; exact h
/-- One pair of blocks is merged. -/
theorem blocks_merge {key : Int → Int} {c bs n : Nat} {d d' : Array Int} (hd : Done key c (2 * bs) d) (hb : Blocks key (c * (2 * bs)) bs n d) (hp : PermIn (c * (2 * bs)) ((c + 1) * (2 * bs)) d d') (ha : AscIn key (c * (2 * bs)) ((c + 1) * (2 * bs)) d') :
    Done key (c + 1) (2 * bs) d' ∧ Blocks key ((c + 1) * (2 * bs)) bs n d' :=
  ⟨hd.next hp ha, hb.congr hp (by rw [Nat.add_mul]; omega) (Nat.le_refl _)⟩

set_option maxRecDepth 100000 in
set_option maxHeartbeats 8000000 in
theorem sstable_any (cb : Nat) (lb : Array Value) (key : Int → Int) (E : Int → Prop) (g cap N : Nat) (w0 : World) (hc : CmpX w0 g N cb lb key E) (hb : N ≤ 1152921504606846975) (d : Array Int) (s : RowX w0 g d) (hN : d.size = N) (hE : AllE E d) :
    Calls Try.prog 82 #[.slice (some ⟨g, 0, none⟩) N cap, .int .i64 N, .func (.func cb) #[] lb] s.w (MergePost key w0 g 0 N d) := by
  have hins := fun (a b : Nat) (d : Array Int) (s : RowX w0 g d) (h1 : d.size = N) (h2 : a ≤ b) (h3 : b ≤ N) (h4 : AllE E d) => sinsert_any cb lb key E g cap a b N d w0 hc s h1 (by omega) h2 h3 h4
  have hmer := fun (a m b : Nat) (d : Array Int) (s : RowX w0 g d) (h1 : d.size = N) (h2 : AllE E d) (h3 : a < m) (h4 : m < b) (h5 : b ≤ N) (h6 : AscIn key a m d) (h7 : AscIn key m b d) => smerge_any cb lb key E g cap N w0 hc (by omega) (b - a + 1) a m b d s (by omega) h1 h2 h3 h4 h5 h6 h7
  have HI := Lib.hid hins
  have HM := Lib.hid hmer
  have HN := Lib.hid hN
  have HE := Lib.hid hE
  clear hc hins hmer hN hE
  go_enter Try.func82, Try.ntmps82
  go_wp2
  go_loopw [7, 8] (fun u v wr => ∃ k a b : Nat, Hid (a = k * 20) ∧ b = a + 20 ∧ a ≤ N ∧ u = .int .i64 a ∧ v = .int .i64 b ∧ ∃ dk, Hid (PermIn 0 N d dk ∧ Done key k 20 dk) ∧ ∃ s : RowX w0 g dk, wr = s.w) (fun u v _ => N - (intOf u).toNat)
  case atStart => exact ⟨0, 0, 20, Lib.hid rfl, rfl, by omega, rfl, rfl, d, Lib.hid ⟨permIn_refl _ _ _, Done.zero⟩, s, rfl⟩
  case round =>
    clear s
    obtain ⟨k, a, b, hka, hab, haN, rfl, rfl, dk, hx, s, rfl⟩ := hrel
    have hsz : dk.size = N := hx.out.1.1.trans HN.out
    have hEk : AllE E dk := HE.out.perm (by have := HN.out; omega) hx.out.1
    have HAB := Lib.hid hab
    by_cases hlt : b ≤ N
    · have hcall := HI.out a b dk s hsz (by omega) hlt hEk
      obtain ⟨B, hB⟩ : ∃ B, B = b + 20 := ⟨_, rfl⟩
      have rB : (b : Int) + 20 = (B : Int) := by omega
      have lB : b ≤ 4611686018427387903 := by omega
      have lA : a < N := by omega
      have hbk : Hid (b = (k + 1) * 20) := Lib.hid (by have := hka.out; omega)
      have HB := Lib.hid hB
      clear hab hB hEk
      go_wp2_with (go_at_call 88; refine hcall.mono ?_; rintro e _ ⟨rfl, d2, hp, ha, s2, rfl⟩)
      have hstep : Hid (PermIn 0 N d d2 ∧ Done key (k + 1) 20 d2) := Lib.hid (by
        rw [hka.out, hbk.out] at hp ha
        exact ⟨permIn_trans _ _ _ _ _ hx.out.1 (permIn_mono _ _ _ _ _ _ (by omega) (by have := hbk.out; omega) (by omega) hp), hx.out.2.next hp ha⟩)
      clear hp ha
      go_roundw
      case rel => exact ⟨k + 1, b, B, hbk, HB.out, hlt, rfl, by go_num, d2, hstep, s2, rfl⟩
      case measure => have := HAB.out; simp [intOf]; omega
    · have hcall := HI.out a N dk s hsz haN (Nat.le_refl _) hEk
      clear hab hEk
      go_wp2_with (go_at_call 88; refine hcall.mono ?_; rintro e _ ⟨rfl, d2, hp, ha, s2, rfl⟩)
      have hstep : Hid (PermIn 0 N d d2 ∧ Blocks key 0 20 N d2) := Lib.hid ⟨permIn_trans _ _ _ _ _ hx.out.1 (permIn_mono _ _ _ _ _ _ (by omega) (Nat.le_refl _) (by omega) hp), by
        have h2 := hx.out.2.congr hp (by have := hka.out; omega)
        exact h2.blocks (by have := hka.out; omega) (by have := hka.out; have := HAB.out; omega) (by rw [← hka.out]; exact ha)⟩
      clear hp ha s hcall hsz hlt HAB hka hx haN
      go_loopw [6, 7, 8, 9] (fun t _ _ _ wr => ∃ bs : Nat, 0 < bs ∧ bs ≤ 2 * N + 20 ∧ t = .int .i64 bs ∧ ∃ dk, Hid (PermIn 0 N d dk ∧ Blocks key 0 bs N dk) ∧ ∃ s : RowX w0 g dk, wr = s.w) (fun t _ _ _ _ => N - (intOf t).toNat)
      case atStart => exact ⟨20, by omega, by omega, rfl, d2, hstep, s2, rfl⟩
      case round =>
        clear s2 hstep
        obtain ⟨bs, hbs, hbl, rfl, dk, hx, s, rfl⟩ := hrel
        by_cases hlt : bs < N
        · obtain ⟨B2, hB2⟩ : ∃ B2, B2 = 2 * bs := ⟨_, rfl⟩
          have rB2 : 2 * (bs : Int) = (B2 : Int) := by omega
          have rB3 : (bs : Int) * 2 = (B2 : Int) := by omega
          have lB2 : B2 ≤ 4 * N := by omega
          have HB2 := Lib.hid hB2
          have hst : Hid (PermIn 0 N d dk ∧ Done key 0 (2 * bs) dk ∧ Blocks key (0 * (2 * bs)) bs N dk) := Lib.hid ⟨hx.out.1, Done.zero, hx.out.2.start⟩
          clear hB2 hx
          go_wp2
          go_loopw [7, 8] (fun u v wr => ∃ c a b : Nat, Hid (a = c * (2 * bs)) ∧ b = a + B2 ∧ a ≤ N ∧ u = .int .i64 a ∧ v = .int .i64 b ∧ ∃ dj, Hid (PermIn 0 N d dj ∧ Done key c (2 * bs) dj ∧ Blocks key (c * (2 * bs)) bs N dj) ∧ ∃ s : RowX w0 g dj, wr = s.w) (fun u v _ => N - (intOf u).toNat)
          case atStart => exact ⟨0, 0, B2, Lib.hid (by omega), by omega, by omega, rfl, rfl, dk, hst, s, rfl⟩
          case round =>
            clear s hst
            obtain ⟨c, a, b, hca, hab, haN, rfl, rfl, dj, hy, s, rfl⟩ := hrel
            have hsz : dj.size = N := hy.out.1.1.trans HN.out
            have hEk : AllE E dj := HE.out.perm (by have := HN.out; omega) hy.out.1
            have HAB := Lib.hid hab
            obtain ⟨M, hM⟩ : ∃ M, M = a + bs := ⟨_, rfl⟩
            have rM : (a : Int) + (bs : Int) = (M : Int) := by omega
            have lM : M ≤ 4 * N := by omega
            have HM2 := Lib.hid hM
            by_cases hle : b ≤ N
            · have e1 : b = (c + 1) * (2 * bs) := by rw [hab, hca.out, HB2.out, Nat.add_mul]; omega
              have hcall := HM.out a M b dj s hsz hEk (by omega) (by have := HB2.out; omega) hle (by
                have := hy.out.2.2.first (by rw [← hca.out]; have := HB2.out; omega)
                rw [← hca.out, ← hM] at this
                exact this) (by
                have := hy.out.2.2.second (b := b) hle (by rw [← hca.out]; have := HB2.out; omega)
                rw [← hca.out, ← hM] at this
                exact this)
              obtain ⟨B, hB⟩ : ∃ B, B = b + B2 := ⟨_, rfl⟩
              have rB : (b : Int) + (B2 : Int) = (B : Int) := by omega
              have lB : B ≤ 5 * N := by omega
              have HE1 := Lib.hid e1
              have HB := Lib.hid hB
              clear hab hB hM e1 hEk
              go_wp2_with (go_at_call 89; refine hcall.mono ?_; rintro e _ ⟨rfl, d3, hp, ha, s3, rfl⟩)
              have hstep2 : Hid (PermIn 0 N d d3 ∧ Done key (c + 1) (2 * bs) d3 ∧ Blocks key ((c + 1) * (2 * bs)) bs N d3) := Lib.hid (by
                have h0 := permIn_mono _ _ _ _ 0 N (by omega) hle (by omega) hp
                rw [hca.out, HE1.out] at hp ha
                have := blocks_merge hy.out.2.1 hy.out.2.2 hp ha
                exact ⟨permIn_trans _ _ _ _ _ hy.out.1 h0, this.1, this.2⟩)
              clear hp ha
              go_roundw
              case rel => exact ⟨c + 1, b, B, HE1, HB.out, hle, rfl, by go_num, d3, hstep2, s3, rfl⟩
              case measure => have := HAB.out; have := HB2.out; simp [intOf]; omega
            · have hbk : Hid (∀ dn, PermIn a N dj dn → AscIn key a N dn → PermIn 0 N d dn ∧ Blocks key 0 B2 N dn) := Lib.hid fun dn hp ha => ⟨permIn_trans _ _ _ _ _ hy.out.1 (permIn_mono _ _ _ _ _ _ (by omega) (Nat.le_refl _) (by omega) hp), by
                rw [HB2.out]
                refine Done.blocks (hy.out.2.1.congr hp (by rw [← hca.out]; exact Nat.le_refl _)) (by rw [← hca.out]; exact haN) ?_ (by rw [← hca.out]; exact ha)
                rw [Nat.add_mul, ← hca.out]
                have := HB2.out; omega⟩
              have hB0 : 0 < B2 := by have := HB2.out; omega
              have hB1 : B2 ≤ 2 * N + 20 := by have := HB2.out; omega
              have hBm : Hid (N - B2 < N - bs) := Lib.hid (by have := HB2.out; omega)
              by_cases hMN : M < N
              · have hcall := HM.out a M N dj s hsz hEk (by omega) hMN (Nat.le_refl _) (by
                  have := hy.out.2.2.first (by rw [← hca.out]; omega)
                  rw [← hca.out, ← hM] at this
                  exact this) (by
                  have := hy.out.2.2.second (b := N) (Nat.le_refl _) (by rw [← hca.out]; have := HB2.out; omega)
                  rw [← hca.out, ← hM] at this
                  exact this)
                clear hab hM hEk
                go_wp2_with (go_at_call 89; refine hcall.mono ?_; rintro e _ ⟨rfl, d3, hp, ha, s3, rfl⟩)
                have hstep2 := Lib.hid (hbk.out d3 hp ha)
                clear hp ha
                go_roundw
                case rel => exact ⟨B2, hB0, hB1, by go_num, d3, hstep2, s3, rfl⟩
                case measure => have := hBm.out; simp [intOf]; omega
              · have hstep2 := Lib.hid (hbk.out dj (permIn_refl _ _ _) (by
                  have := hy.out.2.2.tail (by rw [← hca.out]; omega)
                  rw [← hca.out] at this
                  exact this))
                clear hab hM hEk
                go_wp2
                go_roundw
                case rel => exact ⟨B2, hB0, hB1, by go_num, dj, hstep2, s, rfl⟩
                case measure => have := hBm.out; simp [intOf]; omega
        · go_wp2
          go_end0
          exact ⟨rfl, dk, hx.out.1, hx.out.2.whole (by omega), s, rfl⟩

set_option maxRecDepth 100000 in
theorem sort_stable_any (cb : Nat) (lb : Array Value) (key : Int → Int) (E : Int → Prop) (g cap N : Nat) (w0 : World) (hc : CmpX w0 g N cb lb key E) (hb : N ≤ 1152921504606846975) (d : Array Int) (s : RowX w0 g d) (hN : d.size = N) (hE : AllE E d) :
    Calls Try.prog 70 #[.slice (some ⟨g, 0, none⟩) N cap, .func (.func cb) #[] lb] s.w (MergePost key w0 g 0 N d) := by
  have hcall := sstable_any cb lb key E g cap N w0 hc hb d s hN hE
  clear hc hE
  go_enter Try.func70, Try.ntmps70
  go_wp2_with (go_at_call 82; refine hcall.mono ?_; rintro e _ ⟨rfl, h⟩)
  go_end0
  exact ⟨rfl, h⟩
end Go.Proofs.Ytgmjppjgbalapaa
