import Derived.Test.YtdedfjkenbaebaaDoorE08a19
/- What DeltaSorts needs. -/
namespace Go.Proofs.YtdedfjkenbaebaaDoor
open Go.RowKit Go.Shelf Go.Proofs.YtdedfjkenbaebaaDoor.Plain01
set_option linter.unusedVariables false
set_option linter.unusedSimpArgs false

theorem asc_cores {cs ds : List Cmd} (h : cores ds = cores cs) (ha : Asc cs) : Asc ds := by
  unfold Asc at *
  have e : ∀ l : List Cmd, l.Pairwise (fun a b => a.t ≤ b.t) ↔ (cores l).Pairwise (fun a b => a.2.1 ≤ b.2.1) := fun l => by
    unfold cores
    rw [List.pairwise_map]
  rw [e, h, ← e]
  exact ha
def posOf (es : List Cmd) (k : Nat) : Int := ((es.take k).map Cmd.w).sum
theorem posOf_succ {es : List Cmd} {k : Nat} {c : Cmd} (h : es[k]? = some c) : posOf es (k + 1) = posOf es k + c.w := by unfold posOf; rw [take_succ_of h]; simp
theorem chain_pos {n : Int} : ∀ (es : List Cmd) (lo : Int), Chain n lo (es.map Cmd.tgt) → (∀ (k : Nat) (c : Cmd), es[k]? = some c → c.t = lo + posOf es k) ∧ lo + posOf es es.length = n := by
  intro es
  induction es with
  | nil => intro lo h; exact ⟨fun k c hc => by simp at hc, by simp [posOf]; exact h⟩
  | cons e es ih =>
    intro lo h
    obtain ⟨h1, h2⟩ := h
    obtain ⟨a1, a2⟩ := ih _ h2
    have hs : ∀ k, posOf (e :: es) (k + 1) = e.w + posOf es k := fun k => by simp [posOf]
    refine ⟨fun k c hc => ?_, ?_⟩
    · cases k with
      | zero => cases hc; simp [posOf]; exact h1
      | succ k =>
        have := a1 k c hc
        rw [hs, this]
        show lo + e.w + posOf es k = lo + (e.w + posOf es k)
        omega
    · rw [List.length_cons, hs, ← a2]
      show lo + (e.w + posOf es es.length) = lo + e.w + posOf es es.length
      omega
theorem sorted_pos {o n : Int} {es : List Cmd} (hv : ValidD o n es) (ha : Asc es) : (∀ (k : Nat) (c : Cmd), es[k]? = some c → c.t = posOf es k) ∧ posOf es es.length = n := by
  obtain ⟨h1, h2⟩ := chain_pos es 0 (hv.chain ha)
  exact ⟨fun k c hc => by have := h1 k c hc; omega, by omega⟩
theorem sorted_same {o n : Int} {cs ls ms : List Cmd} (hv : ValidD o n cs) (h1 : ls.Perm cs) (a1 : Asc ls) (h2 : ms.Perm cs) (a2 : Asc ms) : ls = ms :=
  asc_unique (h1.trans h2.symm) ((hv.perm h1).strict a1) ((hv.perm h2).strict a2)

theorem wpList_append_new {W : World} {base : Nat} (hbase : base ≤ W.heap.size) {v : Value} (hv : IsE5 base v W) (sp : Option Addr) (m c : Nat) (news : List Value) (hl : news.length = m * 5) (hnil : sp = none → m = 0) (hnews : ∀ ad, sp = some ad → ∀ j u, news[j]? = some u → W.cell? (ad.add j) = some u) (h1 : ∀ u ∈ news, u.oneCell' = true) (hm : m ≤ 1000000)
    {ops : Array Oper} {rest : List Oper} {o : Oper} {a : Act} {Q : Exit → Act → World → Prop} (sO xO : Operand)
    (hgd : o.guard = none) (ho : o.op = .call { callee := .builtin .append, args := #[sO, xO], argTypes := #[24, 24] }) (hs : a.eval sO = v) (hx : a.eval xO = .slice sp m c)
    (H : ∀ v' W', IsRow base m news v' W' → Below W.heap.size W W' → wpList Tryd.prog ops Q rest (a.put o.dst v') W') : wpList Tryd.prog ops Q (o :: rest) a W := by
  obtain ⟨v', W', hrun, hrow, hb⟩ := run_append_freshO hbase hv sp m c news hl hnil hnews h1 hm o.type
  refine wpList_plain hgd fun K hK => ?_
  unfold Oper.wp
  simp [execOp, ho, resolve, invoke, builtin, hs, hx, hrun, Result.andThen]
  exact hK _ _ (H v' W' hrow hb)
/-- A row lies on where another block is written. -/
theorem own_store {w : World} {base n : Nat} {v u : Value} {xs : List Value} {B i : Nat} (h : w.ownsRow base 46 5 v n xs) (hB : B < base) : (w.setCell ⟨B, i, none⟩ u).ownsRow base 46 5 v n xs :=
  ⟨h.1, h.2.imp id fun ⟨g, cap, cur, e1, e2, e3, e4⟩ => ⟨g, cap, cur, e1, e2, (Below.heap_setCell _ _ _ _ (by show g ≠ B; omega)).trans e3, e4⟩⟩
/-- A slice of the commands in their order; a delta with them. -/
def IsSl (cs : List Cmd) : Value → World → Prop := fun v w => ∃ (a : Option Addr) (ls : List Cmd) (cap : Nat), v = .slice a ls.length cap ∧ CmdsIn w a ls cap ∧ ls.Perm cs ∧ Asc ls
theorem stable_sl (cs : List Cmd) : Stable (fun W W' => Below W.heap.size W W') (IsSl cs) := fun v w w' ⟨a, ls, cap, h1, h2, h3⟩ hE => ⟨a, ls, cap, h1, h2.below hE, h3⟩
def IsDelS (o n : Int) (x y : List Int) (cs : List Cmd) : Value → World → Prop := fun v w => ∃ (D : Array Value) (a : Option Addr) (ls : List Cmd) (cap : Nat), v = .agg D ∧ DeltaOf D o n x y (.slice a ls.length cap) ∧ CmdsIn w a ls cap ∧ ls.Perm cs ∧ Asc ls
theorem stable_delS (o n : Int) (x y : List Int) (cs : List Cmd) : Stable (fun W W' => Below W.heap.size W W') (IsDelS o n x y cs) := fun v w w' ⟨D, a, ls, cap, h1, h2, h3, h4⟩ hE => ⟨D, a, ls, cap, h1, h2, h3.below hE, h4⟩
end Go.Proofs.YtdedfjkenbaebaaDoor

/- Blocks, and what Make finds: plain mathematics. No Go text. -/
namespace Go.Proofs.YtdedfjkenbaebaaDoor
set_option linter.unusedVariables false
set_option linter.unusedSimpArgs false

/-- The smallest index of an item, or -1. -/
def fidx {α : Type} [DecidableEq α] : List α → α → Int
  | [], _ => -1
  | a :: l, x => if a = x then 0 else if fidx l x = -1 then -1 else fidx l x + 1
section
variable {α β : Type} [DecidableEq α] [DecidableEq β]
theorem fidx_ge : ∀ (l : List α) (x : α), -1 ≤ fidx l x ∧ fidx l x < l.length := by
  intro l
  induction l with
  | nil => intro x; simp [fidx]
  | cons a l ih =>
    intro x
    have := ih x
    simp only [fidx, List.length_cons]
    split
    · omega
    · split <;> omega
theorem fidx_none : ∀ (l : List α) (x : α), fidx l x = -1 ↔ x ∉ l := by
  intro l
  induction l with
  | nil => intro x; simp [fidx]
  | cons a l ih =>
    intro x
    have h1 := ih x
    have h2 := fidx_ge l x
    simp only [fidx, List.mem_cons]
    by_cases ha : a = x
    · subst ha; simp
    · rw [if_neg ha]
      by_cases hx : fidx l x = -1
      · rw [if_pos hx]
        have := h1.1 hx
        simp [this, Ne.symm ha]
      · rw [if_neg hx]
        constructor
        · intro h; omega
        · intro h
          exact absurd (h1.2 (fun hm => h (.inr hm))) hx
theorem fidx_some : ∀ (l : List α) (x : α) (i : Nat), fidx l x = i ↔ l[i]? = some x ∧ ∀ j, j < i → l[j]? ≠ some x := by
  intro l
  induction l with
  | nil => intro x i; simp [fidx] <;> omega
  | cons a l ih =>
    intro x i
    have h2 := fidx_ge l x
    simp only [fidx]
    by_cases ha : a = x
    · subst ha
      rw [if_pos rfl]
      cases i with
      | zero => simp
      | succ i =>
        constructor
        · intro h; omega
        · rintro ⟨_, h⟩
          exact absurd rfl (h 0 (by omega))
    · rw [if_neg ha]
      cases i with
      | zero =>
        constructor
        · intro h; split at h <;> omega
        · rintro ⟨h, _⟩
          simp at h
          exact absurd h ha
      | succ i =>
        have h1 := ih x i
        constructor
        · intro h
          split at h
          · omega
          · obtain ⟨h3, h4⟩ := h1.1 (by omega)
            refine ⟨by simpa using h3, fun j hj => ?_⟩
            cases j with
            | zero => simpa using ha
            | succ j => simpa using h4 j (by omega)
        · rintro ⟨h3, h4⟩
          have h5 := h1.2 ⟨by simpa using h3, fun j hj => by simpa using h4 (j + 1) (by omega)⟩
          rw [if_neg (by omega), h5]
          omega
theorem fidx_eq {l : List α} {x : α} {i : Nat} (h1 : l[i]? = some x) (h2 : ∀ j, j < i → l[j]? ≠ some x) : fidx l x = i := (fidx_some l x i).2 ⟨h1, h2⟩
theorem fidx_at {l : List α} {x : α} (h : fidx l x ≠ -1) : ∃ i : Nat, fidx l x = i ∧ l[i]? = some x ∧ i < l.length := by
  have := fidx_ge l x
  obtain ⟨i, hi⟩ : ∃ i : Nat, fidx l x = i := ⟨(fidx l x).toNat, by omega⟩
  have h1 := ((fidx_some l x i).1 hi).1
  exact ⟨i, hi, h1, (List.getElem?_eq_some_iff.1 h1).1⟩
theorem fidx_inj {l : List α} {x y : α} (hx : x ∈ l) (h : fidx l x = fidx l y) : x = y := by
  have h0 : fidx l x ≠ -1 := fun hn => (fidx_none l x).1 hn hx
  obtain ⟨i, hi, hi1, _⟩ := fidx_at h0
  obtain ⟨j, hj, hj1, _⟩ := fidx_at (h ▸ h0)
  obtain rfl : i = j := by omega
  rw [hi1] at hj1
  exact Option.some.inj hj1
/-- The index under a function that tells an item apart. -/
theorem fidx_map (g : α → β) : ∀ (l : List α) (x : α) (y : β), (∀ a ∈ l, g a = y ↔ a = x) → fidx (l.map g) y = fidx l x := by
  intro l
  induction l with
  | nil => intro x y _; rfl
  | cons a l ih =>
    intro x y h
    have h1 := ih x y (fun b hb => h b (List.mem_cons_of_mem _ hb))
    have h2 := h a List.mem_cons_self
    simp only [List.map_cons, fidx, h1]
    by_cases ha : a = x
    · rw [if_pos ha, if_pos (h2.2 ha)]
    · rw [if_neg ha, if_neg (fun hg => ha (h2.1 hg))]
end

/-- The pieces of so many bytes, from each offset. -/
def wins (s : Nat) (l : List Int) : List (List Int) := (List.range (l.length + 1 - s)).map fun i => (l.drop i).take s
theorem wins_length (s : Nat) (l : List Int) : (wins s l).length = l.length + 1 - s := by simp [wins]
theorem wins_get {s : Nat} {l : List Int} {i : Nat} (h : i + s ≤ l.length) : (wins s l)[i]? = some ((l.drop i).take s) := by
  unfold wins
  rw [List.getElem?_map, List.getElem?_range (by omega)]
  rfl
theorem wins_mem {s : Nat} {l u : List Int} (h : u ∈ wins s l) (hs : 1 ≤ s) : ∃ i, i + s ≤ l.length ∧ u = (l.drop i).take s := by
  unfold wins at h
  obtain ⟨i, hi, rfl⟩ := List.mem_map.1 h
  have := List.mem_range.1 hi
  exact ⟨i, by omega, rfl⟩
theorem wins_mem_of {s : Nat} {l : List Int} {i : Nat} (h : i + s ≤ l.length) : (l.drop i).take s ∈ wins s l := List.mem_of_getElem? (wins_get h)
theorem wins_one (l : List Int) : wins 1 l = l.map fun x => [x] := by
  apply List.ext_getElem?
  intro i
  by_cases h : i < l.length
  · rw [wins_get (by omega), List.getElem?_map, List.getElem?_eq_getElem h]
    rw [List.drop_eq_getElem_cons h]
    rfl
  · rw [List.getElem?_eq_none (by rw [wins_length]; omega), List.getElem?_eq_none (by rw [List.length_map]; omega)]
/-- Where each piece of x begins first in a. -/
def firstW (s : Nat) (a x : List Int) : List Int := (wins s x).map fun u => fidx (wins s a) u
theorem firstW_length (s : Nat) (a x : List Int) : (firstW s a x).length = x.length + 1 - s := by unfold firstW; rw [List.length_map, wins_length]
theorem firstW_one (a x : List Int) : x.map (fidx a) = firstW 1 a x := by
  unfold firstW
  rw [wins_one, wins_one, List.map_map]
  congr 1
  funext y
  exact (fidx_map (fun z => [z]) a y [y] (fun b _ => by simp)).symm
/-- Each number together with the one that is t behind it. -/
def pairsL (t : Nat) (l : List Int) : List (Int × Int) := (List.range (l.length - t)).map fun i => (l[i]?.getD 0, l[i + t]?.getD 0)
theorem pairsL_length (t : Nat) (l : List Int) : (pairsL t l).length = l.length - t := by simp [pairsL]
/-- A longer piece by the two pieces at its endsW. -/
def endsW (s t : Nat) (a u : List Int) : Int × Int := (fidx (wins s a) (u.take s), fidx (wins s a) (u.drop t))
theorem pairs_firstW {s t : Nat} (hs : 1 ≤ s) (a x : List Int) : pairsL t (firstW s a x) = (wins (s + t) x).map (endsW s t a) := by
  apply List.ext_getElem?
  intro i
  by_cases h : i + (s + t) ≤ x.length
  · rw [List.getElem?_map, wins_get h]
    unfold pairsL
    rw [List.getElem?_map, List.getElem?_range (by rw [firstW_length]; omega)]
    simp only [Option.map_some, Option.some.injEq]
    unfold endsW firstW
    rw [List.getElem?_map, List.getElem?_map, wins_get (show i + s ≤ x.length by omega), wins_get (show i + t + s ≤ x.length by omega)]
    simp only [Option.map_some, Option.getD_some, List.take_take, List.drop_take, List.drop_drop]
    rw [show min s (s + t) = s by omega, show s + t - t = s by omega]
  · rw [List.getElem?_eq_none (by rw [pairsL_length, firstW_length]; omega), List.getElem?_eq_none (by rw [List.length_map, wins_length]; omega)]
theorem ends_same {s t : Nat} (hs : 1 ≤ s) (ht : t ≤ s) {a u v : List Int} (hu : u ∈ wins (s + t) a) (hv : v.length = s + t) : endsW s t a u = endsW s t a v ↔ u = v := by
  constructor
  · intro h
    obtain ⟨i, hi, rfl⟩ := wins_mem hu (by omega)
    unfold endsW at h
    simp only [Prod.mk.injEq, List.take_take, List.drop_take, List.drop_drop] at h
    rw [show min s (s + t) = s by omega, show s + t - t = s by omega] at h
    have h1 := fidx_inj (wins_mem_of (by omega)) h.1
    have h2 := fidx_inj (wins_mem_of (by omega)) h.2
    apply List.ext_getElem?
    intro j
    by_cases hj : j < s
    · have := congrArg (fun l => l[j]?) h1
      simp only [List.getElem?_take, if_pos hj] at this
      rw [List.getElem?_take, if_pos (by omega), this]
    · by_cases hj2 : j < s + t
      · have := congrArg (fun l => l[j - t]?) h2
        simp only [List.getElem?_take, List.getElem?_drop] at this
        rw [if_pos (by omega)] at this
        rw [List.getElem?_take, if_pos hj2, List.getElem?_drop]
        rw [show i + j = i + t + (j - t) by omega, this, show t + (j - t) = j by omega]
      · rw [List.getElem?_take, if_neg hj2, List.getElem?_eq_none (by omega)]
  · intro h; rw [h]
/-- The size grows by the pairs. -/
theorem firstW_more {s t : Nat} (hs : 1 ≤ s) (ht : t ≤ s) (a x : List Int) : (pairsL t (firstW s a x)).map (fidx (pairsL t (firstW s a a))) = firstW (s + t) a x := by
  rw [pairs_firstW hs, pairs_firstW hs, List.map_map]
  unfold firstW
  apply List.map_congr_left
  intro v hv
  obtain ⟨i, hi, hvi⟩ := wins_mem hv (by omega)
  show fidx ((wins (s + t) a).map (endsW s t a)) (endsW s t a v) = fidx (wins (s + t) a) v
  exact fidx_map _ _ _ _ (fun u hu => ends_same hs ht hu (by rw [hvi, List.length_take, List.length_drop]; omega))

/-- How many bytes are the same at the beginning. -/
def comm : List Int → List Int → Nat
  | a :: l, b :: m => if a = b then comm l m + 1 else 0
  | _, _ => 0
theorem comm_le : ∀ (a b : List Int), comm a b ≤ a.length ∧ comm a b ≤ b.length := by
  intro a
  induction a with
  | nil => intro b; simp [comm]
  | cons x a ih =>
    intro b
    cases b with
    | nil => simp [comm]
    | cons y b =>
      have := ih b
      simp only [comm, List.length_cons]
      split <;> omega
theorem comm_take : ∀ (a b : List Int), a.take (comm a b) = b.take (comm a b) := by
  intro a
  induction a with
  | nil => intro b; simp [comm]
  | cons x a ih =>
    intro b
    cases b with
    | nil => simp [comm]
    | cons y b =>
      simp only [comm]
      split
      · rename_i h; subst h; simp [ih b]
      · simp
theorem comm_ge : ∀ (s : Nat) (a b : List Int), s ≤ a.length → s ≤ b.length → a.take s = b.take s → s ≤ comm a b := by
  intro s
  induction s with
  | zero => intro a b _ _ _; omega
  | succ s ih =>
    intro a b ha hb h
    cases a with
    | nil => simp at ha
    | cons x a =>
      cases b with
      | nil => simp at hb
      | cons y b =>
        simp only [List.take_succ_cons, List.cons.injEq] at h
        simp only [List.length_cons] at ha hb
        have := ih a b (by omega) (by omega) h.2
        simp only [comm, if_pos h.1]
        omega
theorem comm_iff {s : Nat} {a b : List Int} (ha : s ≤ a.length) (hb : s ≤ b.length) : s ≤ comm a b ↔ a.take s = b.take s := by
  refine ⟨fun h => ?_, fun h => comm_ge s a b ha hb h⟩
  have := congrArg (List.take s) (comm_take a b)
  rwa [List.take_take, List.take_take, Nat.min_eq_left h] at this
/-- The walk along two byte strings. -/
theorem comm_step {a b : List Int} {i : Nat} (ha : i < a.length) (hb : i < b.length) (h : a.take i = b.take i) : (a[i]?.getD 0 = b[i]?.getD 0 → a.take (i + 1) = b.take (i + 1)) ∧ (a[i]?.getD 0 ≠ b[i]?.getD 0 → comm a b = i) := by
  rw [List.getElem?_eq_getElem ha, List.getElem?_eq_getElem hb]
  simp only [Option.getD_some]
  have e1 : a.take (i + 1) = a.take i ++ [a[i]] := List.take_succ_eq_append_getElem ha
  have e2 : b.take (i + 1) = b.take i ++ [b[i]] := List.take_succ_eq_append_getElem hb
  refine ⟨fun hx => by rw [e1, e2, h, hx], fun hx => ?_⟩
  have h1 := (comm_iff (Nat.le_of_lt ha) (Nat.le_of_lt hb)).2 h
  have h2 : ¬ i + 1 ≤ comm a b := fun hh => by
    have h3 := (comm_iff (by omega) (by omega)).1 hh
    rw [e1, e2, h] at h3
    have h4 := List.append_cancel_left h3
    simp only [List.cons.injEq, and_true] at h4
    exact hx h4
  omega
theorem comm_end {a b : List Int} {i : Nat} (h : a.take i = b.take i) (hi : i = min a.length b.length) : comm a b = i := by
  have h1 := comm_le a b
  have h2 := (comm_iff (s := i) (by omega) (by omega)).2 h
  omega

/-- Where the bytes to copy begin in old, and how many they are. -/
def findN (old new : List Int) (block : Int) (p : Nat) : Option (Nat × Nat) :=
  if block < 1 ∨ (new.length : Int) - p < block then none
  else if fidx (wins block.toNat old) ((new.drop p).take block.toNat) = -1 then none
  else some ((fidx (wins block.toNat old) ((new.drop p).take block.toNat)).toNat, comm (old.drop (fidx (wins block.toNat old) ((new.drop p).take block.toNat)).toNat) (new.drop p))
theorem findN_some {old new : List Int} {block : Int} {p q n : Nat} (h : findN old new block p = some (q, n)) : 1 ≤ n ∧ q + n ≤ old.length ∧ p + n ≤ new.length ∧ (old.drop q).take n = (new.drop p).take n := by
  unfold findN at h
  split at h
  · cases h
  · rename_i h1
    split at h
    · cases h
    · rename_i h2
      obtain ⟨i, hi, hg, hil⟩ := fidx_at h2
      obtain ⟨j, hj, hje⟩ := wins_mem (List.mem_of_getElem? hg) (by omega)
      rw [hi] at h
      simp only [Int.toNat_natCast, Option.some.injEq, Prod.mk.injEq] at h
      obtain ⟨rfl, rfl⟩ := h
      have hil2 : i + block.toNat ≤ old.length := by rw [wins_length] at hil; omega
      rw [wins_get hil2] at hg
      have hg2 := Option.some.inj hg
      have hge := comm_ge block.toNat (old.drop i) (new.drop p) (by rw [List.length_drop]; omega) (by rw [List.length_drop]; omega) hg2
      have hle := comm_le (old.drop i) (new.drop p)
      rw [List.length_drop, List.length_drop] at hle
      exact ⟨by omega, by omega, by omega, comm_take _ _⟩
end Go.Proofs.YtdedfjkenbaebaaDoor

/- The commands that Make finds, what they write, and that they are valid: plain mathematics. No Go text. -/
namespace Go.Proofs.YtdedfjkenbaebaaDoor
open Go.Proofs.YtdedfjkenbaebaaDoor.Plain01
set_option linter.unusedVariables false
set_option linter.unusedSimpArgs false

/-- Kind, To, From, Len, Data. -/
abbrev Core8 : Type := Int × Int × Int × Int × List Int
/-- The literal of the bytes from b to p. -/
def litC (new : List Int) (b p : Nat) : List Core8 := if b = p then [] else [(2, (b : Int), 0, 0, (new.drop b).take (p - b))]
/-- The commands from offset p on, the bytes from b to p being literal. -/
def greedy (F : Nat → Option (Nat × Nat)) (new : List Int) : Nat → Nat → Nat → List Core8
  | 0, _, b => litC new b new.length
  | k + 1, p, b => if p < new.length then
      match F p with
      | some (q, n) => litC new b p ++ [(1, (p : Int), (q : Int), (n : Int), [])] ++ greedy F new k (p + n) (p + n)
      | none => greedy F new k (p + 1) b
    else litC new b new.length
theorem greedy_copy {F : Nat → Option (Nat × Nat)} {new : List Int} {k p b q n : Nat} (hp : p < new.length) (h : F p = some (q, n)) : greedy F new (k + 1) p b = litC new b p ++ [(1, (p : Int), (q : Int), (n : Int), [])] ++ greedy F new k (p + n) (p + n) := by
  rw [greedy, if_pos hp, h]
theorem greedy_lit {F : Nat → Option (Nat × Nat)} {new : List Int} {k p b : Nat} (hp : p < new.length) (h : F p = none) : greedy F new (k + 1) p b = greedy F new k (p + 1) b := by
  rw [greedy, if_pos hp, h]
theorem greedy_end {F : Nat → Option (Nat × Nat)} {new : List Int} {k p b : Nat} (hp : new.length ≤ p) : greedy F new k p b = litC new b new.length := by
  cases k with
  | zero => rfl
  | succ k => rw [greedy, if_neg (by omega)]
/-- The commands of Make. -/
def makeC (old new : List Int) (block : Int) : List Core8 := greedy (findN old new block) new (new.length + 1) 0 0

/-- What a command writes. -/
def contC (old : List Int) (c : Core8) : List Int := if c.1 = 1 then (old.drop c.2.2.1.toNat).take c.2.2.2.1.toNat else c.2.2.2.2
/-- How many bytes that is. -/
def lenC (c : Core8) : Int := wlen c.1 c.2.2.2.1 c.2.2.2.2.length
/-- A command that Make may return. -/
def GoodC (o n : Nat) (c : Core8) : Prop := (c.1 = 1 ∧ 0 ≤ c.2.1 ∧ 0 ≤ c.2.2.1 ∧ 1 ≤ c.2.2.2.1 ∧ c.2.2.2.2 = [] ∧ c.2.2.1 + c.2.2.2.1 ≤ o ∧ c.2.1 + c.2.2.2.1 ≤ n) ∨ (c.1 = 2 ∧ 0 ≤ c.2.1 ∧ c.2.2.1 = 0 ∧ c.2.2.2.1 = 0 ∧ 1 ≤ c.2.2.2.2.length ∧ c.2.1 + c.2.2.2.2.length ≤ n)
theorem litC_good {new : List Int} {b p o : Nat} (hb : b ≤ p) (hp : p ≤ new.length) : ∀ c ∈ litC new b p, GoodC o new.length c := by
  intro c hc
  unfold litC at hc
  split at hc
  · simp at hc
  · obtain rfl := List.mem_singleton.1 hc
    right
    refine ⟨rfl, by simp, rfl, rfl, ?_, ?_⟩
    · simp only [List.length_take, List.length_drop]; omega
    · simp only [List.length_take, List.length_drop]; omega
/-- Each begins where the one before it ends; together they write the file from b on. -/
theorem litC_chain {new old : List Int} {b p : Nat} (hb : b ≤ p) (hp : p ≤ new.length) {T : List (Int × Int)} (hT : Chain new.length p T) :
    Chain new.length b ((litC new b p).map (fun c => (c.2.1, lenC c)) ++ T) ∧ (litC new b p).flatMap (contC old) = (new.drop b).take (p - b) := by
  unfold litC
  split
  · rename_i h
    subst h
    exact ⟨hT, by simp⟩
  · refine ⟨⟨rfl, ?_⟩, by simp [contC]⟩
    have : ((b : Int) + lenC (2, (b : Int), 0, 0, (new.drop b).take (p - b))) = (p : Int) := by
      unfold lenC wlen
      rw [if_neg (by simp)]
      simp only [List.length_take, List.length_drop]
      omega
    simp only [this]
    exact hT
theorem greedy_ok {F : Nat → Option (Nat × Nat)} {old new : List Int} (hF : ∀ p q n, F p = some (q, n) → 1 ≤ n ∧ q + n ≤ old.length ∧ p + n ≤ new.length ∧ (old.drop q).take n = (new.drop p).take n) :
    ∀ (k p b : Nat), b ≤ p → p ≤ new.length → (∀ c ∈ greedy F new k p b, GoodC old.length new.length c) ∧ Chain new.length b ((greedy F new k p b).map (fun c => (c.2.1, lenC c))) ∧ (greedy F new k p b).flatMap (contC old) = new.drop b := by
  have hend : ∀ b, b ≤ new.length → (∀ c ∈ litC new b new.length, GoodC old.length new.length c) ∧ Chain new.length b ((litC new b new.length).map (fun c => (c.2.1, lenC c))) ∧ (litC new b new.length).flatMap (contC old) = new.drop b := fun b hb => by
    have := litC_chain (old := old) (T := []) hb (Nat.le_refl _) rfl
    rw [List.append_nil] at this
    exact ⟨litC_good hb (Nat.le_refl _), this.1, by rw [this.2]; exact List.take_of_length_le (by simp)⟩
  intro k
  induction k with
  | zero => intro p b hb hp; exact hend b (by omega)
  | succ k ih =>
    intro p b hb hp
    by_cases hlt : p < new.length
    · cases h : F p with
      | none => rw [greedy_lit hlt h]; exact ih (p + 1) b (by omega) (by omega)
      | some qn =>
        obtain ⟨q, n⟩ := qn
        obtain ⟨h1, h2, h3, h4⟩ := hF p q n h
        obtain ⟨i1, i2, i3⟩ := ih (p + n) (p + n) (Nat.le_refl _) h3
        rw [greedy_copy hlt h]
        have hcp : Chain new.length p ((1, (p : Int), (q : Int), (n : Int), ([] : List Int)) :: greedy F new k (p + n) (p + n) |>.map (fun c => (c.2.1, lenC c))) := by
          refine ⟨rfl, ?_⟩
          have : ((p : Int) + lenC (1, (p : Int), (q : Int), (n : Int), ([] : List Int))) = ((p + n : Nat) : Int) := by unfold lenC wlen; simp
          simp only [this]
          exact i2
        obtain ⟨c1, c2⟩ := litC_chain (old := old) hb hp hcp
        refine ⟨fun c hc => ?_, ?_, ?_⟩
        · rw [List.append_assoc] at hc
          rcases List.mem_append.1 hc with hc | hc
          · exact litC_good hb hp c hc
          · rcases List.mem_cons.1 hc with rfl | hc
            · left
              exact ⟨rfl, by simp, by simp, by simp only; omega, rfl, by simp only; omega, by simp only; omega⟩
            · exact i1 c hc
        · rw [List.append_assoc, List.map_append]
          exact c1
        · rw [List.append_assoc, List.flatMap_append, c2, List.flatMap_append, i3]
          have : ([(1, (p : Int), (q : Int), (n : Int), ([] : List Int))] : List Core8).flatMap (contC old) = (new.drop p).take n := by
            simp [contC, h4]
          rw [this, ← List.drop_drop, List.take_append_drop]
          rw [show new.drop p = (new.drop b).drop (p - b) by rw [List.drop_drop, show b + (p - b) = p by omega], List.take_append_drop]
    · rw [greedy_end (by omega)]
      exact hend b (by omega)
theorem makeC_ok (old new : List Int) (block : Int) : (∀ c ∈ makeC old new block, GoodC old.length new.length c) ∧ Chain new.length 0 ((makeC old new block).map (fun c => (c.2.1, lenC c))) ∧ (makeC old new block).flatMap (contC old) = new := by
  have := greedy_ok (F := findN old new block) (old := old) (new := new) (fun p q n h => findN_some h) (new.length + 1) 0 0 (Nat.le_refl _) (Nat.zero_le _)
  rw [List.drop_zero] at this
  exact this

/-- A command is good as a command of a delta. -/
theorem good_single {o n : Nat} {c : Cmd} (ho : o ≤ 4611686018427387903) (hn : n ≤ 4611686018427387903) (h : GoodC o n c.core) : single o n c = 0 := by
  unfold GoodC Cmd.core at h
  simp only at h
  unfold single Cmd.code chk Cmd.w wlen
  rcases h with ⟨h1, h2, h3, h4, h5, h6, h7⟩ | ⟨h1, h2, h3, h4, h5, h6⟩
  · rw [h1, h5]
    have e1 : okE (c.t, c.n) = true := okE_iff.2 ⟨h2, by simp only; omega, by simp only; omega⟩
    have e2 : okE (c.f, c.n) = true := okE_iff.2 ⟨h3, by simp only; omega, by simp only; omega⟩
    simp [e1, e2]
    split
    · omega
    · rw [if_neg (by omega), if_neg (by omega)]
  · rw [h1, h3, h4]
    have e1 : okE (c.t, (c.l.length : Int)) = true := okE_iff.2 ⟨h2, by simp only; omega, by simp only; omega⟩
    simp [e1]
    rw [if_neg (by intro h; rw [h] at h5; simp at h5)]
    simp
    omega
theorem cmd_tgt_core (c : Cmd) : c.tgt = (c.core.2.1, lenC c.core) := rfl
/-- The delta of Make is valid; its commands ascend. -/
theorem make_valid {old new : List Int} {block : Int} {cs : List Cmd} (hc : cores cs = makeC old new block) (ho : old.length ≤ 4611686018427387903) (hn : new.length ≤ 4611686018427387903) : ValidD old.length new.length cs := by
  obtain ⟨h1, h2, -⟩ := makeC_ok old new block
  have hall : AllOK old.length new.length cs := fun c hm => good_single ho hn (h1 _ (by rw [← hc]; exact List.mem_map_of_mem (f := Cmd.core) hm))
  refine ⟨by unfold LensBad; omega, hall, ?_⟩
  have ht : cs.map Cmd.tgt = (makeC old new block).map (fun c => (c.2.1, lenC c)) := by
    rw [← hc]
    unfold cores
    rw [List.map_map]
    rfl
  rw [ht]
  refine chain_tiles _ _ (fun p hp => ?_) h2
  rw [← ht] at hp
  obtain ⟨c, hm, rfl⟩ := List.mem_map.1 hp
  exact (single_ok (hall c hm)).2.1.2.1
theorem chain_asc {n : Int} : ∀ (cs : List Cmd) (lo : Int), (∀ c ∈ cs, 0 ≤ c.w) → Chain n lo (cs.map Cmd.tgt) → Asc cs ∧ ∀ c ∈ cs, lo ≤ c.t := by
  intro cs
  induction cs with
  | nil => intro lo _ _; exact ⟨List.Pairwise.nil, fun c hc => by simp at hc⟩
  | cons a cs ih =>
    intro lo hw h
    obtain ⟨h1, h2⟩ := h
    have hwa := hw a List.mem_cons_self
    obtain ⟨i1, i2⟩ := ih _ (fun c hc => hw c (List.mem_cons_of_mem _ hc)) h2
    have h1' : a.t = lo := h1
    refine ⟨List.pairwise_cons.2 ⟨fun b hb => ?_, i1⟩, fun c hc => ?_⟩
    · have := i2 b hb
      show a.t ≤ b.t
      have : lo + a.w ≤ b.t := this
      omega
    · rcases List.mem_cons.1 hc with rfl | hc
      · omega
      · have : lo + a.w ≤ c.t := i2 c hc
        omega
theorem make_asc {old new : List Int} {block : Int} {cs : List Cmd} (hc : cores cs = makeC old new block) (ho : old.length ≤ 4611686018427387903) (hn : new.length ≤ 4611686018427387903) : Asc cs := by
  have hv := make_valid hc ho hn
  obtain ⟨h1, h2, -⟩ := makeC_ok old new block
  have ht : cs.map Cmd.tgt = (makeC old new block).map (fun c => (c.2.1, lenC c)) := by
    rw [← hc]
    unfold cores
    rw [List.map_map]
    rfl
  refine (chain_asc cs 0 (fun c hm => ?_) (by rw [ht]; exact h2)).1
  have := (single_ok (hv.all c hm)).2.1
  omega

/-- The bytes that a command of a valid delta writes. -/
def Cmd.cont (old : List Int) (c : Cmd) : List Int := contC old c.core
/-- The new file. -/
noncomputable def newF (old : List Int) (n : Nat) (cs : List Cmd) : List Int := (List.range n).map fun (i : Nat) => match cs[(findOf cs (i : Int)).toNat]? with
  | some c => ((c.cont old)[((i : Int) - c.t).toNat]?).getD 0
  | none => 0
end Go.Proofs.YtdedfjkenbaebaaDoor

namespace Go.Proofs.YtdedfjkenbaebaaDoor
open Go.Proofs.YtdedfjkenbaebaaDoor.Plain01
set_option linter.unusedVariables false
set_option linter.unusedSimpArgs false

theorem cont_len {o n : Int} {old : List Int} {c : Cmd} (ho : (old.length : Int) = o) (h : single o n c = 0) : ((c.cont old).length : Int) = c.w ∧ (c.k = 1 ∨ c.k = 2) := by
  obtain ⟨h1, h2, h3⟩ := single_ok h
  have hk : c.k = 1 ∨ c.k = 2 := (chk_ok h1).imp (·.1) (·.1)
  unfold Cmd.cont contC Cmd.core Cmd.w wlen at *
  simp only
  refine ⟨?_, hk⟩
  split
  · rename_i hk1
    rw [if_pos hk1] at h2
    have := h3 hk1
    rw [List.length_take, List.length_drop]
    omega
  · rfl
/-- A file that has the bytes of each command at its target is the new file. -/
theorem newF_eq {o : Int} {n : Nat} {old xs : List Int} {cs : List Cmd} (ho : (old.length : Int) = o) (hv : ValidD o n cs) (hl : xs.length = n) (hx : ∀ c ∈ cs, ∀ i : Nat, (i : Int) < c.w → xs[c.t.toNat + i]? = (c.cont old)[i]?) : xs = newF old n cs := by
  apply List.ext_getElem?
  intro i
  by_cases hi : i < n
  · unfold newF
    rw [List.getElem?_map, List.getElem?_range hi]
    simp only [Option.map_some]
    obtain ⟨j, c, hj, hc⟩ := (hv.some (i : Int)).1 ⟨by omega, by omega⟩
    have hfs := findOf_spec cs (i : Int)
    have hne : findOf cs (i : Int) ≠ -1 := fun h => hfs.no h c (List.mem_of_getElem? hj) hc
    obtain ⟨k, d, hk, hkd, hd, -⟩ := hfs.yes hne
    obtain rfl : k = j := hv.one hkd hj hd hc
    rw [hj] at hkd
    obtain rfl := Option.some.inj hkd
    rw [hk]
    simp only [Int.toNat_natCast, hj]
    have hm := List.mem_of_getElem? hj
    have hs := hv.all c hm
    have h2 := (single_ok hs).2.1
    unfold Cmd.has at hc
    have h1 := hx c hm ((i : Int) - c.t).toNat (by omega)
    rw [show c.t.toNat + ((i : Int) - c.t).toNat = i by omega] at h1
    have h3 : ((i : Int) - c.t).toNat < (c.cont old).length := by have := (cont_len ho hs).1; omega
    rw [h1, List.getElem?_eq_getElem h3]
    rfl
  · rw [List.getElem?_eq_none (by omega), List.getElem?_eq_none (by unfold newF; simp; omega)]
theorem newF_length (old : List Int) (n : Nat) (cs : List Cmd) : (newF old n cs).length = n := by simp [newF]
/-- The bytes of each command lie at its target. -/
theorem newF_at {o : Int} {n : Nat} {old : List Int} {cs : List Cmd} (ho : (old.length : Int) = o) (hv : ValidD o n cs) {c : Cmd} (hm : c ∈ cs) {i : Nat} (hi : (i : Int) < c.w) : (newF old n cs)[c.t.toNat + i]? = (c.cont old)[i]? := by
  have hs := hv.all c hm
  have h2 := (single_ok hs).2.1
  obtain ⟨j, hj⟩ := List.getElem?_of_mem hm
  have hc : c.has ((c.t.toNat + i : Nat) : Int) := by unfold Cmd.has; omega
  unfold newF
  rw [List.getElem?_map, List.getElem?_range (by omega)]
  simp only [Option.map_some]
  have hfs := findOf_spec cs ((c.t.toNat + i : Nat) : Int)
  have hne : findOf cs ((c.t.toNat + i : Nat) : Int) ≠ -1 := fun h => hfs.no h c hm hc
  obtain ⟨k, d, hk, hkd, hd, -⟩ := hfs.yes hne
  obtain rfl : k = j := hv.one hkd hj hd hc
  rw [hj] at hkd
  obtain rfl := Option.some.inj hkd
  rw [hk]
  simp only [Int.toNat_natCast, hj]
  have h3 : i < (c.cont old).length := by have := (cont_len ho hs).1; omega
  rw [show ((((c.t.toNat + i : Nat) : Int) - c.t).toNat) = i by omega, List.getElem?_eq_getElem h3]
  rfl
theorem newF_perm {o : Int} {n : Nat} {old : List Int} {cs ds : List Cmd} (ho : (old.length : Int) = o) (hv : ValidD o n cs) (hp : ds.Perm cs) : newF old n ds = newF old n cs :=
  newF_eq ho hv (newF_length _ _ _) (fun c hm i hi => newF_at ho (hv.perm hp) (hp.mem_iff.2 hm) hi)
theorem cont_core {old : List Int} {c d : Cmd} (h : c.core = d.core) : c.cont old = d.cont old := by unfold Cmd.cont; rw [h]
theorem newF_cores {o : Int} {n : Nat} {old : List Int} {cs ds : List Cmd} (ho : (old.length : Int) = o) (hv : ValidD o n cs) (hc : cores ds = cores cs) : newF old n ds = newF old n cs :=
  newF_eq ho hv (newF_length _ _ _) (fun c hm i hi => by
    have hm2 : c.core ∈ cores ds := by rw [hc]; exact List.mem_map_of_mem (f := Cmd.core) hm
    obtain ⟨d, hd, he⟩ := List.mem_map.1 hm2
    have hw : d.w = c.w := by have := congrArg lenC he; exact this
    have ht : d.t = c.t := by have := congrArg (fun q : Core8 => q.2.1) he; exact this
    have := newF_at ho (valid_cores hc hv) hd (i := i) (by omega)
    rw [ht, cont_core he] at this
    exact this)
theorem cont_get {old : List Int} : ∀ (cs : List Cmd), (∀ c ∈ cs, ((c.cont old).length : Int) = c.w) → ∀ (k : Nat) (c : Cmd), cs[k]? = some c → 0 ≤ posOf cs k ∧ ∀ i : Nat, (i : Int) < c.w → (cs.flatMap (Cmd.cont old))[(posOf cs k).toNat + i]? = (c.cont old)[i]? := by
  intro cs
  induction cs with
  | nil => intro _ k c h; simp at h
  | cons a cs ih =>
    intro hw k c h
    have ha := hw a List.mem_cons_self
    cases k with
    | zero =>
      simp only [List.getElem?_cons_zero, Option.some.injEq] at h
      subst h
      refine ⟨by simp [posOf], fun i hi => ?_⟩
      rw [show (posOf (a :: cs) 0).toNat + i = i by simp [posOf], List.flatMap_cons, List.getElem?_append_left (by omega)]
    | succ k =>
      obtain ⟨h1, h2⟩ := ih (fun d hd => hw d (List.mem_cons_of_mem _ hd)) k c (by simpa using h)
      have e : posOf (a :: cs) (k + 1) = a.w + posOf cs k := by unfold posOf; simp
      refine ⟨by omega, fun i hi => ?_⟩
      rw [List.flatMap_cons, List.getElem?_append_right (by omega), ← h2 i hi]
      congr 1
      omega
theorem flat_length {old : List Int} : ∀ (cs : List Cmd), (∀ c ∈ cs, ((c.cont old).length : Int) = c.w) → ((cs.flatMap (Cmd.cont old)).length : Int) = posOf cs cs.length := by
  intro cs
  induction cs with
  | nil => intro _; simp [posOf]
  | cons a cs ih =>
    intro hw
    have ha := hw a List.mem_cons_self
    have hi := ih (fun d hd => hw d (List.mem_cons_of_mem _ hd))
    have e : posOf (a :: cs) (a :: cs).length = a.w + posOf cs cs.length := by unfold posOf; simp
    rw [List.flatMap_cons, List.length_append, e]
    omega
/-- In ascending order, the commands write the new file one behind the other. -/
theorem newF_flat {o : Int} {n : Nat} {old : List Int} {cs : List Cmd} (ho : (old.length : Int) = o) (hv : ValidD o n cs) (ha : Asc cs) : cs.flatMap (Cmd.cont old) = newF old n cs := by
  have hw : ∀ c ∈ cs, ((c.cont old).length : Int) = c.w := fun c hm => (cont_len ho (hv.all c hm)).1
  obtain ⟨h1, h2⟩ := sorted_pos hv ha
  refine newF_eq ho hv ?_ (fun c hm i hi => ?_)
  · have := flat_length cs hw
    omega
  · obtain ⟨k, hk⟩ := List.getElem?_of_mem hm
    have h3 := h1 k c hk
    rw [h3]
    exact (cont_get cs hw k c hk).2 i hi
theorem make_new {old new : List Int} {block : Int} {cs : List Cmd} (hc : cores cs = makeC old new block) (ho : old.length ≤ 4611686018427387903) (hn : new.length ≤ 4611686018427387903) : newF old new.length cs = new := by
  rw [← newF_flat (o := old.length) rfl (make_valid hc ho hn) (make_asc hc ho hn)]
  have h := (makeC_ok old new block).2.2
  rw [← hc] at h
  unfold cores at h
  rw [List.flatMap_map] at h
  exact h
end Go.Proofs.YtdedfjkenbaebaaDoor
