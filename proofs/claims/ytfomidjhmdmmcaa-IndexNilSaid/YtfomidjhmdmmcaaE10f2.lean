import Derived.Test.YtfomidjhmdmmcaaE10f1
import Derived.StillTail
/- Plain mathematics for package index: extents that do not overlap, in ascending order; what an extent meets; the gaps. No Go text. -/
namespace Go.Proofs.Ytfomidjhmdmmcaa
open Go.Proofs.Ytfomidjhmdmmcaa.Plain01
set_option linter.unusedVariables false

def Dis10 (a b : Int × Int) : Prop := a.1 + a.2 ≤ b.1 ∨ b.1 + b.2 ≤ a.1
instance (a b : Int × Int) : Decidable (Dis10 a b) := by unfold Dis10; exact inferInstance
/-- Extents that can be indexed. -/
def Right10 (es : List (Int × Int)) : Prop := (∀ x ∈ es, okE x = true ∧ 0 < x.2) ∧ es.Pairwise Dis10
instance (es : List (Int × Int)) : Decidable (Right10 es) := by unfold Right10; exact inferInstance
def at10 (es : List (Int × Int)) (i : Nat) : Int × Int := (es[i]?).getD (0, 0)
theorem at10_of {es : List (Int × Int)} {i : Nat} {x : Int × Int} (h : es[i]? = some x) : at10 es i = x := by unfold at10; rw [h]; rfl
theorem at10_get {es : List (Int × Int)} {i : Nat} (h : i < es.length) : es[i]? = some (at10 es i) := by unfold at10; rw [List.getElem?_eq_getElem h]; rfl
theorem at10_mem {es : List (Int × Int)} {i : Nat} (h : i < es.length) : at10 es i ∈ es := List.mem_of_getElem? (at10_get h)
theorem at10_elem {es : List (Int × Int)} {i : Nat} (h : i < es.length) : es[i] = at10 es i := by
  have := at10_get h
  rw [List.getElem?_eq_getElem h] at this
  exact Option.some.inj this
theorem right_at {es : List (Int × Int)} (h : Right10 es) {i : Nat} (hi : i < es.length) : okE (at10 es i) = true ∧ 0 < (at10 es i).2 := h.1 _ (at10_mem hi)

/-- The order of their beginnings; each begins behind the end of those before it. -/
def Asc10 (S : List (Int × Int)) : Prop := S.Pairwise fun a b => a.1 ≤ b.1
def Sep10 (S : List (Int × Int)) : Prop := S.Pairwise fun a b => a.1 + a.2 ≤ b.1
/-- The end of the one before. -/
def endB10 (S : List (Int × Int)) (k : Nat) : Int := if k = 0 then 0 else (at10 S (k - 1)).1 + (at10 S (k - 1)).2
theorem endB10_zero (S : List (Int × Int)) : endB10 S 0 = 0 := rfl
theorem endB10_succ (S : List (Int × Int)) (k : Nat) : endB10 S (k + 1) = (at10 S k).1 + (at10 S k).2 := by unfold endB10; rw [if_neg (by omega), Nat.add_sub_cancel]
def Good10 (S : List (Int × Int)) (k : Nat) : Prop := ∀ j, j < k → okE (at10 S j) = true ∧ 0 < (at10 S j).2 ∧ endB10 S j ≤ (at10 S j).1
theorem Good10.succ {S : List (Int × Int)} {k : Nat} (h : Good10 S k) (h1 : okE (at10 S k) = true) (h2 : 0 < (at10 S k).2) (h3 : endB10 S k ≤ (at10 S k).1) : Good10 S (k + 1) := fun j hj => by
  by_cases hjk : j < k
  · exact h j hjk
  · obtain rfl : j = k := by omega
    exact ⟨h1, h2, h3⟩
theorem Good10.sep {S : List (Int × Int)} (h : Good10 S S.length) : (∀ x ∈ S, okE x = true ∧ 0 < x.2) ∧ Sep10 S := by
  constructor
  · intro x hx
    obtain ⟨i, hi⟩ := List.getElem?_of_mem hx
    have hil := (List.getElem?_eq_some_iff.1 hi).1
    have := h i hil
    rw [at10_of hi] at this
    exact ⟨this.1, this.2.1⟩
  · unfold Sep10
    rw [List.pairwise_iff_getElem]
    intro i j hi hj hij
    rw [at10_elem hi, at10_elem hj]
    induction j with
    | zero => omega
    | succ j ih =>
      have h1 := (h (j + 1) hj).2.2
      rw [endB10_succ] at h1
      by_cases e : i = j
      · subst e; exact h1
      · have h2 := ih (by omega) (by omega)
        have h3 := (h j (by omega)).2.1
        omega
theorem Sep10.dis {S : List (Int × Int)} (h : Sep10 S) : S.Pairwise Dis10 := h.imp fun h => .inl h
theorem Dis10.symm {a b : Int × Int} (h : Dis10 a b) : Dis10 b a := Or.symm h
theorem right_perm {S es : List (Int × Int)} (h : S.Perm es) : Right10 S ↔ Right10 es := by
  unfold Right10
  rw [h.pairwise_iff (fun h => Dis10.symm h)]
  constructor
  · intro ⟨h1, h2⟩; exact ⟨fun x hx => h1 x (h.mem_iff.2 hx), h2⟩
  · intro ⟨h1, h2⟩; exact ⟨fun x hx => h1 x (h.mem_iff.1 hx), h2⟩
theorem right_good {S : List (Int × Int)} (h : Right10 S) (ha : Asc10 S) : Good10 S S.length := fun j hj => by
  have hj' := right_at h hj
  refine ⟨hj'.1, hj'.2, ?_⟩
  cases j with
  | zero =>
    rw [endB10_zero]
    exact (okE_iff.1 hj'.1).1
  | succ j =>
    rw [endB10_succ]
    have h1 := (List.pairwise_iff_getElem.1 h.2) j (j + 1) (by omega) hj (by omega)
    have h2 := (List.pairwise_iff_getElem.1 ha) j (j + 1) (by omega) hj (by omega)
    rw [at10_elem (by omega), at10_elem hj] at h1 h2
    unfold Dis10 at h1
    omega
theorem good_right {S : List (Int × Int)} (h : Good10 S S.length) : Right10 S := ⟨h.sep.1, h.sep.2.dis⟩
theorem not_right {S : List (Int × Int)} (ha : Asc10 S) {k : Nat} (hk : k < S.length) (hn : ¬ (okE (at10 S k) = true ∧ 0 < (at10 S k).2 ∧ endB10 S k ≤ (at10 S k).1)) : ¬ Right10 S := fun h => hn (right_good h ha k hk)

/-- The extents at some positions. -/
def sel10 (es : List (Int × Int)) (idx : List Nat) : List (Int × Int) := idx.map (at10 es)
theorem sel10_length (es : List (Int × Int)) (idx : List Nat) : (sel10 es idx).length = idx.length := by unfold sel10; rw [List.length_map]
theorem sel10_at {es : List (Int × Int)} {idx : List Nat} {k i : Nat} (h : idx[k]? = some i) : at10 (sel10 es idx) k = at10 es i := by
  apply at10_of
  unfold sel10
  rw [List.getElem?_map, h]
  rfl
theorem sel10_perm {es : List (Int × Int)} {idx : List Nat} (h : idx.Perm (List.range es.length)) : (sel10 es idx).Perm es := by
  have h1 := h.map (at10 es)
  have h2 : (List.range es.length).map (at10 es) = es := by
    apply List.ext_getElem
    · simp
    · intro i h3 h4
      rw [List.getElem_map, List.getElem_range, at10_elem h4]
  rw [h2] at h1
  exact h1
/-- There is one strictly ascending order. -/
theorem strict_unique (k : Nat → Int) : ∀ {l m : List Nat}, l.Perm m → l.Pairwise (fun a b => k a < k b) → m.Pairwise (fun a b => k a < k b) → l = m := by
  intro l
  induction l with
  | nil => intro m hp _ _; exact (List.Perm.nil_eq hp)
  | cons a l ih =>
    intro m hp hl hm
    cases m with
    | nil => exact absurd hp (by simp)
    | cons b m =>
      rw [List.pairwise_cons] at hl hm
      have hab : a = b := by
        have h1 : a ∈ b :: m := hp.mem_iff.1 List.mem_cons_self
        have h2 : b ∈ a :: l := hp.mem_iff.2 List.mem_cons_self
        rcases List.mem_cons.1 h1 with h1 | h1
        · exact h1
        · rcases List.mem_cons.1 h2 with h2 | h2
          · exact h2.symm
          · have e1 := hm.1 a h1
            have e2 := hl.1 b h2
            omega
      subst hab
      rw [ih ((List.perm_cons a).1 hp) hl.2 hm.2]
def ord10 (es : List (Int × Int)) : List Nat := (List.range es.length).mergeSort (fun i j => decide ((at10 es i).1 ≤ (at10 es j).1))
theorem ord10_perm (es : List (Int × Int)) : (ord10 es).Perm (List.range es.length) := List.mergeSort_perm _ _
theorem ord10_length (es : List (Int × Int)) : (ord10 es).length = es.length := by rw [(ord10_perm es).length_eq, List.length_range]
theorem ord10_asc (es : List (Int × Int)) : (ord10 es).Pairwise fun i j => (at10 es i).1 ≤ (at10 es j).1 := by
  have := List.pairwise_mergeSort (le := fun (i j : Nat) => decide ((at10 es i).1 ≤ (at10 es j).1)) (by intro a b c; simp; omega) (by intro a b; simp; omega) (List.range es.length)
  unfold ord10
  exact this.imp (fun h => by simpa using h)
theorem asc_sep {es : List (Int × Int)} (hR : Right10 es) {idx : List Nat} (hp : idx.Perm (List.range es.length)) (ha : idx.Pairwise fun i j => (at10 es i).1 ≤ (at10 es j).1) : Sep10 (sel10 es idx) ∧ idx.Pairwise fun i j => (at10 es i).1 < (at10 es j).1 := by
  have hS := (right_perm (sel10_perm hp)).2 hR
  have hA : Asc10 (sel10 es idx) := by unfold Asc10 sel10; rw [List.pairwise_map]; exact ha
  have h1 := (right_good hS hA).sep
  refine ⟨h1.2, ?_⟩
  have h2 := h1.2
  unfold Sep10 sel10 at h2
  rw [List.pairwise_map] at h2
  refine List.Pairwise.imp_of_mem (fun {i j} hi hj h => ?_) h2
  have := right_at hR (i := i) (by have := hp.mem_iff.1 hi; rwa [List.mem_range] at this)
  omega
theorem ord_eq {es : List (Int × Int)} (hR : Right10 es) {idx : List Nat} (hp : idx.Perm (List.range es.length)) (ha : idx.Pairwise fun i j => (at10 es i).1 ≤ (at10 es j).1) : idx = ord10 es :=
  strict_unique (fun i => (at10 es i).1) (hp.trans (ord10_perm es).symm) (asc_sep hR hp ha).2 (asc_sep hR (ord10_perm es) (ord10_asc es)).2

theorem ovl_comm (a b : Int × Int) : ovl a b = ovl b a := by
  unfold ovl
  rw [Int.min_comm (a.1 + a.2), Int.max_comm a.1]
theorem ovlB_comm (a b : Int × Int) : ovlB a b = ovlB b a := by
  unfold ovlB
  rw [Int.min_comm (a.1 + a.2), Int.max_comm a.1]
theorem ovl_len (a b : Int × Int) : (ovlB a b = true → 0 < (ovl a b).2) ∧ (ovlB a b = false → ovl a b = (0, 0)) := by
  unfold ovlB ovl
  constructor
  · intro h
    simp only [decide_eq_true_eq] at h
    rw [if_neg (by omega)]
    simp only
    omega
  · intro h
    simp only [decide_eq_false_iff_not] at h
    rw [if_pos (by omega)]

/-- The positions of the extents that e meets, in ascending order. -/
def meet10 (es : List (Int × Int)) (e : Int × Int) : List Nat := (ord10 es).filter fun i => ovlB (at10 es i) e
def part10 (es : List (Int × Int)) (e : Int × Int) (i : Nat) : Int × Int := ovl (at10 es i) e
def cov10 (es : List (Int × Int)) (e : Int × Int) : Int := (es.map fun x => (ovl x e).2).sum
theorem sum_filter10 (p : Nat → Bool) (f : Nat → Int) (h : ∀ i, p i = false → f i = 0) : ∀ l : List Nat, ((l.filter p).map f).sum = (l.map f).sum := by
  intro l
  induction l with
  | nil => rfl
  | cons a l ih =>
    rw [List.filter_cons]
    by_cases hp : p a = true
    · rw [if_pos hp, List.map_cons, List.sum_cons, List.map_cons, List.sum_cons, ih]
    · rw [if_neg hp, List.map_cons, List.sum_cons, ih, h a (by simpa using hp)]
      omega
theorem sum_perm10 {l m : List Int} (h : l.Perm m) : l.sum = m.sum := by
  induction h with
  | nil => rfl
  | cons x _ ih => rw [List.sum_cons, List.sum_cons, ih]
  | swap x y l => simp only [List.sum_cons]; omega
  | trans _ _ ih1 ih2 => rw [ih1, ih2]
theorem cov_meet (es : List (Int × Int)) (e : Int × Int) : ((meet10 es e).map fun i => (part10 es e i).2).sum = cov10 es e := by
  unfold meet10
  rw [sum_filter10 _ _ (fun i hi => by unfold part10; rw [(ovl_len _ _).2 hi])]
  unfold cov10
  refine sum_perm10 ?_
  have h := (sel10_perm (ord10_perm es)).map (fun x => (ovl x e).2)
  unfold sel10 at h
  rw [List.map_map] at h
  exact h
/-- What the walk from the first extent that ends behind e's beginning yields. -/
theorem filter_walk {α : Type} (p : α → Bool) : ∀ (l : List α) (A : Nat), A ≤ l.length → (∀ j x, j < A → l[j]? = some x → p x = false) → (∀ (i j : Nat) (x y : α), A ≤ i → i ≤ j → l[i]? = some x → l[j]? = some y → p x = false → p y = false) → l.filter p = (l.drop A).takeWhile p := by
  intro l
  induction l with
  | nil => intro A _ _ _; simp
  | cons a l ih =>
    intro A hA h1 h2
    cases A with
    | succ A =>
      have ha : p a = false := h1 0 a (by omega) rfl
      rw [List.filter_cons, if_neg (by rw [ha]; simp), List.drop_succ_cons]
      refine ih A (by simpa using hA) (fun j x hj hx => h1 (j + 1) x (by omega) (by simpa using hx)) (fun i j x y hi hij hx hy => h2 (i + 1) (j + 1) x y (by omega) (by omega) (by simpa using hx) (by simpa using hy))
    | zero =>
      rw [List.drop_zero, List.filter_cons, List.takeWhile_cons]
      by_cases hp : p a = true
      · rw [if_pos hp, if_pos hp]
        have := ih 0 (by omega) (fun j x hj => by omega) (fun i j x y hi hij hx hy => h2 (i + 1) (j + 1) x y (by omega) (by omega) (by simpa using hx) (by simpa using hy))
        rw [List.drop_zero] at this
        rw [this]
      · have hp' : p a = false := by simpa using hp
        rw [if_neg hp, if_neg hp]
        rw [List.filter_eq_nil_iff]
        intro x hx
        obtain ⟨j, hj⟩ := List.getElem?_of_mem hx
        have := h2 0 (j + 1) a x (by omega) (by omega) rfl (by simpa using hj) hp'
        rw [this]; simp
theorem meet_walk {es : List (Int × Int)} (hR : Right10 es) {e : Int × Int} (he : okE e = true) {A : Nat} (hA : A ≤ es.length) (h1 : ∀ j, j < A → (at10 (sel10 es (ord10 es)) j).1 + (at10 (sel10 es (ord10 es)) j).2 ≤ e.1) (h2 : ∀ j, A ≤ j → j < es.length → e.1 < (at10 (sel10 es (ord10 es)) j).1 + (at10 (sel10 es (ord10 es)) j).2) :
    meet10 es e = ((ord10 es).drop A).takeWhile fun i => ovlB (at10 es i) e := by
  have e0 := okE_iff.1 he
  have hlt : ∀ {j x : Nat}, (ord10 es)[j]? = some x → j < es.length := fun {j x} h => by
    have := (List.getElem?_eq_some_iff.1 h).1
    rwa [ord10_length] at this
  have hx2 : ∀ {j x : Nat}, (ord10 es)[j]? = some x → 0 < (at10 es x).2 := fun {j x} h => by
    have := (ord10_perm es).mem_iff.1 (List.mem_of_getElem? h)
    exact (right_at hR (by rwa [List.mem_range] at this)).2
  refine filter_walk _ _ A (by rw [ord10_length]; exact hA) (fun j x hj hx => ?_) (fun i j x y hi hij hx hy hp => ?_)
  · have := h1 j hj
    rw [sel10_at hx] at this
    unfold ovlB
    simp only [decide_eq_false_iff_not]
    omega
  · have q1 := h2 i hi (hlt hx)
    have q2 := h2 j (by omega) (hlt hy)
    rw [sel10_at hx] at q1
    rw [sel10_at hy] at q2
    have q3 := hx2 hx
    have q4 := hx2 hy
    have q5 : (at10 es x).1 ≤ (at10 es y).1 := by
      by_cases e : i = j
      · subst e; rw [hx] at hy; rw [Option.some.inj hy]; exact Int.le_refl _
      · have := (List.pairwise_iff_getElem.1 (ord10_asc es)) i j (List.getElem?_eq_some_iff.1 hx).1 (List.getElem?_eq_some_iff.1 hy).1 (by omega)
        rwa [(List.getElem?_eq_some_iff.1 hx).2, (List.getElem?_eq_some_iff.1 hy).2] at this
    unfold ovlB at hp ⊢
    simp only [decide_eq_false_iff_not] at hp ⊢
    omega

/-- The gaps between some parts. -/
def gapF : Int → List (Int × Int) → Int → List (Int × Int)
  | at_, [], stop => if at_ < stop then [(at_, stop - at_)] else []
  | at_, p :: ps, stop => (if at_ < p.1 then [(at_, p.1 - at_)] else []) ++ gapF (p.1 + p.2) ps stop
def gaps10 (es : List (Int × Int)) (e : Int × Int) : List (Int × Int) := gapF e.1 ((meet10 es e).map (part10 es e)) (e.1 + e.2)
/-- Parts in ascending order between two offsets. -/
def Between10 : Int → List (Int × Int) → Int → Prop
  | at_, [], stop => at_ ≤ stop
  | at_, p :: ps, stop => at_ ≤ p.1 ∧ 0 < p.2 ∧ Between10 (p.1 + p.2) ps stop
theorem Between10.le : ∀ {ps : List (Int × Int)} {at_ stop : Int}, Between10 at_ ps stop → at_ ≤ stop := by
  intro ps
  induction ps with
  | nil => intro a s h; exact h
  | cons p ps ih =>
    intro a s h
    have := ih h.2.2
    have := h.1
    have := h.2.1
    omega
theorem gapF_sum : ∀ (ps : List (Int × Int)) (at_ stop : Int), Between10 at_ ps stop → ((gapF at_ ps stop).map (·.2)).sum + (ps.map (·.2)).sum = stop - at_ := by
  intro ps
  induction ps with
  | nil =>
    intro a s h
    have h' : a ≤ s := h
    unfold gapF
    by_cases c : a < s
    · simp [c]
    · simp [c]; omega
  | cons p ps ih =>
    intro a s h
    have h1 := ih _ _ h.2.2
    have h0 := h.1
    unfold gapF
    rw [List.map_append, List.sum_append, List.map_cons (l := ps), List.sum_cons]
    by_cases c : a < p.1
    · simp only [c, if_true, List.map_cons, List.map_nil, List.sum_cons, List.sum_nil]; omega
    · simp only [c, if_false, List.map_nil, List.sum_nil]; omega
theorem gapF_in : ∀ (ps : List (Int × Int)) (at_ stop : Int), Between10 at_ ps stop → ∀ y ∈ gapF at_ ps stop, 0 < y.2 ∧ at_ ≤ y.1 ∧ y.1 + y.2 ≤ stop ∧ ∀ p ∈ ps, Dis10 y p := by
  intro ps
  induction ps with
  | nil =>
    intro a s h y hy
    unfold gapF at hy
    by_cases c : a < s
    · rw [if_pos c] at hy
      obtain rfl := List.mem_singleton.1 hy
      simp only
      exact ⟨by omega, by omega, by omega, fun p hp => by cases hp⟩
    · rw [if_neg c] at hy; cases hy
  | cons p ps ih =>
    intro a s h y hy
    have h0 := h.1
    have h1 := h.2.1
    have hle := h.2.2.le
    have hall : ∀ (qs : List (Int × Int)) (b t : Int), Between10 b qs t → ∀ q ∈ qs, b ≤ q.1 := fun qs => by
      induction qs with
      | nil => intro b t _ q hq; cases hq
      | cons r qs ihq =>
        intro b t hb q hq
        rcases List.mem_cons.1 hq with rfl | hq
        · exact hb.1
        · have := ihq _ _ hb.2.2 q hq
          have := hb.1
          have := hb.2.1
          omega
    unfold gapF at hy
    rcases List.mem_append.1 hy with hy | hy
    · by_cases c : a < p.1
      · rw [if_pos c] at hy
        obtain rfl := List.mem_singleton.1 hy
        simp only
        refine ⟨by omega, by omega, by omega, fun q hq => ?_⟩
        rcases List.mem_cons.1 hq with rfl | hq
        · left; simp only; omega
        · left; have := hall ps _ _ h.2.2 q hq; simp only; omega
      · rw [if_neg c] at hy; cases hy
    · obtain ⟨q1, q2, q3, q4⟩ := ih _ _ h.2.2 y hy
      refine ⟨q1, by omega, q3, fun q hq => ?_⟩
      rcases List.mem_cons.1 hq with rfl | hq
      · right; omega
      · exact q4 q hq
theorem ovl_spec {a b : Int × Int} (h : ovlB a b = true) : (ovl a b).1 = max a.1 b.1 ∧ (ovl a b).1 + (ovl a b).2 = min (a.1 + a.2) (b.1 + b.2) ∧ 0 < (ovl a b).2 := by
  unfold ovlB at h
  simp only [decide_eq_true_eq] at h
  unfold ovl
  rw [if_neg (by omega)]
  simp only
  exact ⟨trivial, by omega, by omega⟩
theorem parts_between {e : Int × Int} : ∀ (l : List (Int × Int)) (at_ : Int), Sep10 l → (∀ x ∈ l, ovlB x e = true) → e.1 ≤ at_ → at_ ≤ e.1 + e.2 → (∀ x ∈ l, at_ ≤ max x.1 e.1) → Between10 at_ (l.map fun x => ovl x e) (e.1 + e.2) := by
  intro l
  induction l with
  | nil => intro a _ _ _ h _; exact h
  | cons x l ih =>
    intro a hS hO h1 h2 h3
    obtain ⟨q1, q2, q3⟩ := ovl_spec (hO x List.mem_cons_self)
    unfold Sep10 at hS
    rw [List.pairwise_cons] at hS
    refine ⟨by have := h3 x List.mem_cons_self; simp only; omega, q3, ?_⟩
    refine ih _ hS.2 (fun y hy => hO y (List.mem_cons_of_mem _ hy)) (by simp only; omega) (by simp only; omega) (fun y hy => ?_)
    have := hS.1 y hy
    simp only
    omega
theorem meet_between {es : List (Int × Int)} (hR : Right10 es) {e : Int × Int} (he : okE e = true) : Between10 e.1 ((meet10 es e).map (part10 es e)) (e.1 + e.2) := by
  have e0 := okE_iff.1 he
  have h1 : (meet10 es e).map (part10 es e) = ((meet10 es e).map (at10 es)).map fun x => ovl x e := by rw [List.map_map]; rfl
  rw [h1]
  refine parts_between _ _ ?_ (fun x hx => ?_) (Int.le_refl _) (by omega) (fun x hx => by omega)
  · have h2 := (asc_sep hR (ord10_perm es) (ord10_asc es)).1
    unfold sel10 at h2
    unfold Sep10 at h2 ⊢
    unfold meet10
    exact h2.sublist (List.filter_sublist.map _)
  · obtain ⟨i, hi, rfl⟩ := List.mem_map.1 hx
    unfold meet10 at hi
    exact (List.mem_filter.1 hi).2
theorem gaps_in {es : List (Int × Int)} (hR : Right10 es) {e : Int × Int} (he : okE e = true) : ∀ y ∈ gaps10 es e, okE y = true ∧ 0 < y.2 ∧ e.1 ≤ y.1 ∧ y.1 + y.2 ≤ e.1 + e.2 ∧ meet10 es y = [] := fun y hy => by
  have e0 := okE_iff.1 he
  obtain ⟨q1, q2, q3, q4⟩ := gapF_in _ _ _ (meet_between hR he) y hy
  refine ⟨okE_iff.2 (by omega), q1, q2, q3, ?_⟩
  unfold meet10
  rw [List.filter_eq_nil_iff]
  intro i hi ho
  have him := (ord10_perm es).mem_iff.1 hi
  rw [List.mem_range] at him
  have ho' := ho
  unfold ovlB at ho'
  simp only [decide_eq_true_eq] at ho'
  have hoe : ovlB (at10 es i) e = true := by
    unfold ovlB
    simp only [decide_eq_true_eq]
    omega
  obtain ⟨p1, p2, p3⟩ := ovl_spec hoe
  have := q4 (part10 es e i) (List.mem_map_of_mem (List.mem_filter.2 ⟨hi, hoe⟩))
  unfold Dis10 part10 at this
  omega
theorem gaps_sum {es : List (Int × Int)} (hR : Right10 es) {e : Int × Int} (he : okE e = true) : ((gaps10 es e).map (·.2)).sum + cov10 es e = e.2 := by
  have h := gapF_sum _ _ _ (meet_between hR he)
  rw [List.map_map] at h
  have h2 := cov_meet es e
  unfold gaps10
  have h3 : ((meet10 es e).map ((fun x : Int × Int => x.2) ∘ part10 es e)).sum = ((meet10 es e).map fun i => (part10 es e i).2).sum := rfl
  omega

/-- The position of the extent that has a byte. -/
structure IsFind10 (es : List (Int × Int)) (off : Int) (r : Int) : Prop where
  no : r = -1 → ∀ i, i < es.length → ¬ ((at10 es i).1 ≤ off ∧ off < (at10 es i).1 + (at10 es i).2)
  yes : r ≠ -1 → ∃ i : Nat, r = i ∧ i < es.length ∧ (at10 es i).1 ≤ off ∧ off < (at10 es i).1 + (at10 es i).2
theorem find10_one {es : List (Int × Int)} (hR : Right10 es) {i j : Nat} (hi : i < es.length) (hj : j < es.length) {off : Int} (h1 : (at10 es i).1 ≤ off ∧ off < (at10 es i).1 + (at10 es i).2) (h2 : (at10 es j).1 ≤ off ∧ off < (at10 es j).1 + (at10 es j).2) : i = j := by
  have key : ∀ {i j : Nat} (hi : i < es.length) (hj : j < es.length), i < j → Dis10 (at10 es i) (at10 es j) := fun {i j} hi hj hij => by
    have := (List.pairwise_iff_getElem.1 hR.2) i j hi hj hij
    rwa [at10_elem hi, at10_elem hj] at this
  rcases Nat.lt_trichotomy i j with h | h | h
  · have := key hi hj h; unfold Dis10 at this; omega
  · exact h
  · have := key hj hi h; unfold Dis10 at this; omega
theorem IsFind10.unique {es : List (Int × Int)} (hR : Right10 es) {off r s : Int} (h1 : IsFind10 es off r) (h2 : IsFind10 es off s) : r = s := by
  by_cases e1 : r = -1
  · by_cases e2 : s = -1
    · omega
    · obtain ⟨i, _, hi, hx⟩ := h2.yes e2
      exact absurd hx (h1.no e1 i hi)
  · obtain ⟨i, rfl, hi, hx⟩ := h1.yes e1
    by_cases e2 : s = -1
    · exact absurd hx (h2.no e2 i hi)
    · obtain ⟨j, rfl, hj, hy⟩ := h2.yes e2
      rw [find10_one hR hi hj hx hy]
end Go.Proofs.Ytfomidjhmdmmcaa

/- A region that draws its order, whose first n operations leave every world of a class in the class, and whose others come in one forced order: the first n are walked once, in the order of the text; the others as any operations. -/
namespace Go.Proofs.Ytfomidjhmdmmcaa
open Go Go.RowKit

section
variable {P : Program} {ops : Array Oper} {md : Region.Mode} {C : World → Prop}

/-- The head of the region, in whatever order. -/
def headAny (P : Program) (md : Region.Mode) (ops : Array Oper) (C : World → Prop) (n : Nat) (L : Array Bool → Act → Prop) : Nat → Array Bool → Act → Prop
  | 0, listed, a => L listed a
  | f + 1, listed, a => Region.ready md ops listed ≠ [] ∧ ∀ i ∈ Region.ready md ops listed, i < n ∧ qOp P ops C i (headAny P md ops C n L f (listed.setIfInBounds i true)) a

theorem any_of_head {n g : Nat} {L : Array Bool → Act → Prop} {Q' : Exit → Act → World → Prop} (hL : ∀ listed a w, C w → L listed a → wpAny P md ops Q' g listed a w) :
    ∀ (f : Nat) (listed : Array Bool) (a : Act) (w : World), C w → headAny P md ops C n L f listed a → wpAny P md ops Q' (f + g) listed a w
  | 0, listed, a, w, hw, h => by rw [Nat.zero_add]; exact hL _ _ _ hw h
  | f + 1, listed, a, w, hw, h => by
    rw [show f + 1 + g = (f + g) + 1 by omega]
    exact ⟨fun h0 => absurd h0 h.1, fun i hi => wpOp_of_qOp hw (fun a' w' hw' h' => any_of_head hL f _ a' w' hw' h') (h.2 i hi).2⟩

theorem head_first {n i : Nat} {oi : Oper} {v : Value} {L : Array Bool → Act → Prop} (hi : ops[i]? = some oi) (hsel : ∀ (j : Nat) (o : Oper) cs b, ops[j]? = some o → o.op ≠ .select cs b)
    (hs : Region.sinkB md ops n = true) (hc : Region.chainB md ops n = true) (hn : n < ops.size) (hin : i < n) (hdone : ∀ listed a, L listed a → ∀ j ∈ Region.ready md ops listed, n ≤ j) :
    ∀ (f : Nat) (listed : Array Bool) (a : Act), HeadInv md ops n listed →
      (∀ j oj, ops[j]? = some oj → j ≠ i → listed.getD j true = false → (∀ e ∈ oj.after, Region.binds md e = true → e.on ≠ i) → oi.apart ops oj = true) →
      i ∈ Region.ready md ops listed → YieldsIn P ops C oi v a →
      headAny P md ops C n L f (listed.setIfInBounds i true) (a.put oi.dst v) → headAny P md ops C n L (f + 1) listed a := by
  intro f
  induction f with
  | zero =>
    intro listed a inv _ hr hy H
    have hun := (mem_ready.1 hr).1
    refine ⟨fun h => (by rw [h] at hr; cases hr), fun j hj => ?_⟩
    have hjn : j < n := by
      rcases Nat.lt_or_ge j n with h | h
      · exact h
      · exact absurd hj (tail_waits hs hc hn inv _ i rfl hin hun j h)
    refine ⟨hjn, ?_⟩
    by_cases hji : j = i
    · subst hji; exact hy.qOp hi H
    · have := hdone _ _ H j (ready_mono hj hji)
      omega
  | succ f ih =>
    intro listed a inv hfree hr hy H
    have hun := (mem_ready.1 hr).1
    refine ⟨fun h => (by rw [h] at hr; cases hr), fun j hj => ?_⟩
    have hjn : j < n := by
      rcases Nat.lt_or_ge j n with h | h
      · exact h
      · exact absurd hj (tail_waits hs hc hn inv _ i rfl hin hun j h)
    refine ⟨hjn, ?_⟩
    by_cases hji : j = i
    · subst hji; exact hy.qOp hi H
    · have h1 := (H.2 j (ready_mono hj hji)).2
      obtain ⟨hjun, oj, hoj, hall⟩ := mem_ready.1 hj
      have hnot : ∀ e ∈ oj.after, Region.binds md e = true → e.on ≠ i := fun e he hb heq => by
        have h1 := hall e he hb
        rw [heq, getD_both hun] at h1
        cases h1
      have h2 := qOp_put hoj (hfree j oj hoj hji hjun hnot) (fun cs b => hsel i oi cs b hi) (fun cs b => hsel j oj cs b hoj) hy h1
      have hfree' : ∀ k ok, ops[k]? = some ok → k ≠ i → (listed.setIfInBounds j true).getD k true = false →
          (∀ e ∈ ok.after, Region.binds md e = true → e.on ≠ i) → oi.apart ops ok = true := fun k ok hk hki hun hno => by
        refine hfree k ok hk hki ?_ hno
        by_cases hjk : j = k
        · subst hjk; exact hjun
        · rw [getD_set_ne true hjk] at hun; exact hun
      refine qOp_mono (fun a' h3 => ih (listed.setIfInBounds j true) a' (inv.set hj hjn) hfree' (ready_mono hr (Ne.symm hji)) h3.1 ?_) h2
      rw [Array.setIfInBounds_comm _ _ hji]
      exact h3.2

theorem head_lex {n g : Nat} {Lq : Act → Prop} (hsel : Region.noSelect ops = true) (hs : Region.sinkB md ops n = true) (hc : Region.chainB md ops n = true) (hn : n < ops.size) :
    ∀ (l : List Oper) (k : Nat) (listed : Array Bool) (a : Act), (∀ j, j < l.length → l[j]? = ops[k + j]?) → k + l.length = n → HeadInv md ops n listed →
    Region.lexHead md ops g l.length k listed = true → wpQuiet P ops C Lq l a →
    headAny P md ops C n (fun listed' a' => Region.seqB md ops g n listed' = true ∧ Lq a') l.length listed a
  | [], k, listed, a, _, hk, _, hB, h => by
    have : k = n := by simpa using hk
    subst this
    exact ⟨by simpa [Region.lexHead] using hB, h⟩
  | o :: l, k, listed, a, hl, hk, inv, hB, h => by
    have h0 : ops[k]? = some o := by simpa using (hl 0 (by simp)).symm
    simp only [List.length_cons, Region.lexHead, Bool.and_eq_true] at hB
    obtain ⟨⟨hr, hf⟩, hB'⟩ := hB
    have hkn : k < n := by simp only [List.length_cons] at hk; omega
    have hr' : k ∈ Region.ready md ops listed := by simpa using hr
    have hst : qOp P ops C k (wpQuiet P ops C Lq l) a := by unfold qOp; simp only [h0]; exact h
    obtain ⟨v, hy, hK⟩ := yieldsIn_of_qOp h0 hst
    exact head_first h0 (Region.noSelect_spec hsel) hs hc hn hkn (fun listed' a' hL => seqB_ready hL.1) l.length listed a inv (Region.free_spec h0 hf) hr' hy
      (head_lex hsel hs hc hn l (k + 1) _ _ (fun j hj => by have := hl (j + 1) (by simp; omega); simpa [Nat.add_assoc, Nat.add_comm 1 j] using this) (by simp only [List.length_cons] at hk; omega) (inv.set hr' hkn) hB' hK)
end

/-- The first n operations in the class of worlds, the others behind them. -/
theorem wp_region_class_tail {P : Program} {id : Nat} {Q : Exit → Act → World → Prop} {a : Act} {w : World} {l : List Oper} (n : Nat) (w0 : World) (bs : List (Nat × Obj)) (hm : P.follows .mixedOrders = true) (hB : Region.lexTailB .any l.toArray n = true)
    (hb : Below w0.heap.size w0 w) (hc : ∀ p ∈ bs, w.heap[p.1]? = some p.2)
    (h : Nonempty (HeldW w0 bs) → wpQuiet P l.toArray (fun w' => ∃ s : HeldW w0 bs, w' = s.w) (fun a' => ∀ w', (∃ s : HeldW w0 bs, w' = s.w) → wpList P l.toArray Q (l.drop n) a' w') (l.take n) a) : (Code.region id l.toArray true).wp P Q a w := by
  simp only [Region.lexTailB, Bool.and_eq_true, decide_eq_true_eq] at hB
  obtain ⟨⟨⟨⟨hsel, hn⟩, hs⟩, hch⟩, hlex⟩ := hB
  have hn' : n < l.length := by simpa using hn
  have htl : (l.take n).length = n := by simp; omega
  have hdl : (l.drop n).length = l.toArray.size - n := by simp
  have inv0 : HeadInv .any l.toArray n (Array.replicate l.toArray.size false) :=
    ⟨by simp, fun j oj _ hl => (by rw [getD_replicate_false] at hl; cases hl), fun t _ ht => getD_in (by simpa using ht) (getD_replicate_false _ _)⟩
  have H := head_lex (C := fun w' => ∃ s : HeldW w0 bs, w' = s.w) (md := .any) (g := l.toArray.size - n) hsel hs hch hn (l.take n) 0 _ a (fun j hj => by
    have hj' : j < n := by rw [htl] at hj; exact hj
    simp [hj']) (by simpa using htl) inv0 (by rw [htl]; exact hlex) (h ⟨⟨w, hb, hc⟩⟩)
  refine wp_region_any hm ?_
  have := any_of_head (Q' := Q) (g := l.toArray.size - n) (fun listed a' w' hw' hL => by
    have := wpAny_of_seq (md := .any) (Q' := Q) (l.drop n) n listed a' w' (fun j => by simp [List.getElem?_drop]) (by rw [hdl]; exact hL.1) (hL.2 w' hw')
    rwa [hdl] at this) _ _ _ _ ⟨⟨w.drew, hb.drew, hc⟩, rfl⟩ H
  rw [htl, show n + (l.toArray.size - n) = l.toArray.size by omega] at this
  exact this

end Go.Proofs.Ytfomidjhmdmmcaa

/- A region that draws its order, whose first operation only reads the frame and is taken first; the next ones leave every world of a class in the class; the others come in one forced order behind all but the first. -/
namespace Go.Proofs.Ytfomidjhmdmmcaa
open Go Go.RowKit
set_option linter.unusedVariables false

section
variable {P : Program} {ops : Array Oper} {md : Region.Mode} {C : World → Prop}

/-- Each operation from 1 on and below n is waited for. -/
def sink1B (md : Region.Mode) (ops : Array Oper) (n : Nat) : Bool :=
  (List.range n).all fun i => i == 0 || (List.range (n + 1)).any fun j => decide (i < j) && Region.waitsFor md ops j i

/-- The first operation has come up. -/
structure Head1 (md : Region.Mode) (ops : Array Oper) (n : Nat) (listed : Array Bool) : Prop where
  inv : HeadInv md ops n listed
  zero : listed.getD 0 true = true

theorem Head1.set {n i : Nat} {listed : Array Bool} (h : Head1 md ops n listed) (hi : i ∈ Region.ready md ops listed) (hin : i < n) : Head1 md ops n (listed.setIfInBounds i true) :=
  ⟨h.inv.set hi hin, by
    by_cases h0 : i = 0
    · subst h0
      rcases Nat.lt_or_ge 0 listed.size with h' | h'
      · simp [h']
      · simp
    · rw [getD_set_ne true h0]; exact h.zero⟩

theorem tail_waits1 {n : Nat} {listed : Array Bool} (hs : sink1B md ops n = true) (hc : Region.chainB md ops n = true) (hn : n < ops.size) (inv : Head1 md ops n listed) :
    ∀ (d i : Nat), n - i = d → i < n → listed.getD i true = false → ∀ t, n ≤ t → t ∉ Region.ready md ops listed := by
  intro d
  induction d using Nat.strongRecOn with
  | _ d ih =>
    intro i hd hi hun t ht hr
    obtain ⟨_, ot, hot, hall⟩ := mem_ready.1 hr
    have htlt : t < ops.size := (Array.getElem?_eq_some_iff.1 hot).1
    by_cases htn : t = n
    · subst htn
      have h1 := List.all_eq_true.1 hs i (List.mem_range.2 hi)
      simp only [Bool.or_eq_true, beq_iff_eq] at h1
      rcases h1 with rfl | h1
      · rw [inv.zero] at hun; cases hun
      obtain ⟨j, hj, hj2⟩ := List.any_eq_true.1 h1
      simp only [Bool.and_eq_true, decide_eq_true_eq] at hj2
      obtain ⟨oj, hoj, e, he, hb, hon⟩ := Region.waitsFor_spec hj2.2
      have hjle : j ≤ t := by have := List.mem_range.1 hj; omega
      by_cases hjt : j = t
      · subst hjt
        have : oj = ot := Option.some.inj (hoj.symm.trans hot)
        subst this
        have h2 := hall e he hb
        rw [hon, getD_both hun] at h2
        cases h2
      · cases hl : listed.getD j false with
        | true =>
          have h2 := inv.inv.closed j oj hoj hl e he hb
          rw [hon, getD_both hun] at h2
          cases h2
        | false =>
          have hjs : j < listed.size := by rw [inv.inv.size]; omega
          exact ih (t - j) (by omega) j rfl (by omega) (getD_in hjs hl) t (Nat.le_refl _) hr
    · have h1 := List.all_eq_true.1 hc t (List.mem_range.2 htlt)
      simp only [Bool.or_eq_true, decide_eq_true_eq] at h1
      rcases h1 with h1 | h1
      · omega
      · obtain ⟨o', ho', e, he, hb, hon⟩ := Region.waitsFor_spec h1
        have : o' = ot := Option.some.inj (ho'.symm.trans hot)
        subst this
        have h2 := hall e he hb
        rw [hon, getD_both (inv.inv.tail (t - 1) (by omega) (by omega))] at h2
        cases h2

theorem head_first1 {n i : Nat} {oi : Oper} {v : Value} {L : Array Bool → Act → Prop} (hi : ops[i]? = some oi) (hsel : ∀ (j : Nat) (o : Oper) cs b, ops[j]? = some o → o.op ≠ .select cs b)
    (hs : sink1B md ops n = true) (hc : Region.chainB md ops n = true) (hn : n < ops.size) (hin : i < n) (hdone : ∀ listed a, L listed a → ∀ j ∈ Region.ready md ops listed, n ≤ j) :
    ∀ (f : Nat) (listed : Array Bool) (a : Act), Head1 md ops n listed →
      (∀ j oj, ops[j]? = some oj → j ≠ i → listed.getD j true = false → (∀ e ∈ oj.after, Region.binds md e = true → e.on ≠ i) → oi.apart ops oj = true) →
      i ∈ Region.ready md ops listed → YieldsIn P ops C oi v a →
      headAny P md ops C n L f (listed.setIfInBounds i true) (a.put oi.dst v) → headAny P md ops C n L (f + 1) listed a := by
  intro f
  induction f with
  | zero =>
    intro listed a inv _ hr hy H
    have hun := (mem_ready.1 hr).1
    refine ⟨fun h => (by rw [h] at hr; cases hr), fun j hj => ?_⟩
    have hjn : j < n := by
      rcases Nat.lt_or_ge j n with h | h
      · exact h
      · exact absurd hj (tail_waits1 hs hc hn inv _ i rfl hin hun j h)
    refine ⟨hjn, ?_⟩
    by_cases hji : j = i
    · subst hji; exact hy.qOp hi H
    · have := hdone _ _ H j (ready_mono hj hji)
      omega
  | succ f ih =>
    intro listed a inv hfree hr hy H
    have hun := (mem_ready.1 hr).1
    refine ⟨fun h => (by rw [h] at hr; cases hr), fun j hj => ?_⟩
    have hjn : j < n := by
      rcases Nat.lt_or_ge j n with h | h
      · exact h
      · exact absurd hj (tail_waits1 hs hc hn inv _ i rfl hin hun j h)
    refine ⟨hjn, ?_⟩
    by_cases hji : j = i
    · subst hji; exact hy.qOp hi H
    · have h1 := (H.2 j (ready_mono hj hji)).2
      obtain ⟨hjun, oj, hoj, hall⟩ := mem_ready.1 hj
      have hnot : ∀ e ∈ oj.after, Region.binds md e = true → e.on ≠ i := fun e he hb heq => by
        have h1 := hall e he hb
        rw [heq, getD_both hun] at h1
        cases h1
      have h2 := qOp_put hoj (hfree j oj hoj hji hjun hnot) (fun cs b => hsel i oi cs b hi) (fun cs b => hsel j oj cs b hoj) hy h1
      have hfree' : ∀ k ok, ops[k]? = some ok → k ≠ i → (listed.setIfInBounds j true).getD k true = false →
          (∀ e ∈ ok.after, Region.binds md e = true → e.on ≠ i) → oi.apart ops ok = true := fun k ok hk hki hun hno => by
        refine hfree k ok hk hki ?_ hno
        by_cases hjk : j = k
        · subst hjk; exact hjun
        · rw [getD_set_ne true hjk] at hun; exact hun
      refine qOp_mono (fun a' h3 => ih (listed.setIfInBounds j true) a' (inv.set hj hjn) hfree' (ready_mono hr (Ne.symm hji)) h3.1 ?_) h2
      rw [Array.setIfInBounds_comm _ _ hji]
      exact h3.2

theorem head_lex1 {n g : Nat} {Lq : Act → Prop} (hsel : Region.noSelect ops = true) (hs : sink1B md ops n = true) (hc : Region.chainB md ops n = true) (hn : n < ops.size) :
    ∀ (l : List Oper) (k : Nat) (listed : Array Bool) (a : Act), (∀ j, j < l.length → l[j]? = ops[k + j]?) → k + l.length = n → Head1 md ops n listed →
    Region.lexHead md ops g l.length k listed = true → wpQuiet P ops C Lq l a →
    headAny P md ops C n (fun listed' a' => Region.seqB md ops g n listed' = true ∧ Lq a') l.length listed a
  | [], k, listed, a, _, hk, _, hB, h => by
    have : k = n := by simpa using hk
    subst this
    exact ⟨by simpa [Region.lexHead] using hB, h⟩
  | o :: l, k, listed, a, hl, hk, inv, hB, h => by
    have h0 : ops[k]? = some o := by simpa using (hl 0 (by simp)).symm
    simp only [List.length_cons, Region.lexHead, Bool.and_eq_true] at hB
    obtain ⟨⟨hr, hf⟩, hB'⟩ := hB
    have hkn : k < n := by simp only [List.length_cons] at hk; omega
    have hr' : k ∈ Region.ready md ops listed := by simpa using hr
    have hst : qOp P ops C k (wpQuiet P ops C Lq l) a := by unfold qOp; simp only [h0]; exact h
    obtain ⟨v, hy, hK⟩ := yieldsIn_of_qOp h0 hst
    exact head_first1 h0 (Region.noSelect_spec hsel) hs hc hn hkn (fun listed' a' hL => seqB_ready hL.1) l.length listed a inv (Region.free_spec h0 hf) hr' hy
      (head_lex1 hsel hs hc hn l (k + 1) _ _ (fun j hj => by have := hl (j + 1) (by simp; omega); simpa [Nat.add_assoc, Nat.add_comm 1 j] using this) (by simp only [List.length_cons] at hk; omega) (inv.set hr' hkn) hB' hK)
end

/-- What the program must look like: the first operation is free and ready, each later one below n is waited for, those behind n form a chain. -/
def tail1B (l : List Oper) (n : Nat) : Bool :=
  Region.noSelect l.toArray && decide (1 ≤ n) && decide (n < l.length) && sink1B .any l.toArray n && Region.chainB .any l.toArray n &&
  Region.lexHead .any l.toArray (l.length - n) (n - 1) 1 ((Array.replicate l.length false).setIfInBounds 0 true) &&
  Region.free .any l.toArray (Array.replicate l.length false) 0 && (Region.ready .any l.toArray (Array.replicate l.length false)).contains 0

/-- The first operation is a move of a slot; the next ones, up to n, in the class of worlds; the others behind them. -/
theorem wp_region_tail1 {P : Program} {id : Nat} {Q : Exit → Act → World → Prop} {a : Act} {w : World} {o0 : Oper} {l : List Oper} (n : Nat) (C : World → Prop) (x : Operand) (hx : o0.op = .move x) (hg : o0.guard = none) (hm : P.follows .mixedOrders = true) (hB : tail1B (o0 :: l) n = true) (hw : C w.drew)
    (hQ : ∀ c a' w', Q (.panic c) (a'.put o0.dst (a.eval x)) w' → Q (.panic c) a' w')
    (h' : wpQuiet P (o0 :: l).toArray C (fun a' => ∀ w', C w' → wpList P (o0 :: l).toArray Q ((o0 :: l).drop n) a' w') ((o0 :: l).take n) a) : (Code.region id (o0 :: l).toArray true).wp P Q a w := by
  have h : wpQuiet P (o0 :: l).toArray C (fun a' => ∀ w', C w' → wpList P (o0 :: l).toArray Q ((o0 :: l).drop n) a' w') (l.take (n - 1)) (a.put o0.dst (a.eval x)) := by
    have hn : n = (n - 1) + 1 := by
      unfold tail1B at hB
      simp only [Bool.and_eq_true, decide_eq_true_eq] at hB
      omega
    rw [hn, List.take_succ_cons] at h'
    rw [← hn] at h'
    unfold wpQuiet at h'
    rw [if_pos (by simp [Region.wanted, hg])] at h'
    obtain ⟨v, h1, h2⟩ := h'
    have h3 := h1 _ hw
    have he : a.eval x = v := by
      unfold Oper.quietAt execOp at h3
      simp [hx, Oper.quietUpon] at h3
      exact h3
    rw [he]
    exact h2
  unfold tail1B at hB
  simp only [Bool.and_eq_true, decide_eq_true_eq] at hB
  obtain ⟨⟨⟨⟨⟨⟨⟨hsel, hn1⟩, hn⟩, hs⟩, hch⟩, hlex⟩, hfree⟩, hready⟩ := hB
  have hsz : (o0 :: l).toArray.size = (o0 :: l).length := by simp
  refine wp_region_any hm ?_
  rw [hsz, show (o0 :: l).length = ((o0 :: l).length - 1) + 1 by simp]
  have hy : Yields P (o0 :: l).toArray o0 (a.eval x) a := Or.inl ⟨by simp [Region.wanted, hg], fun w => by
    unfold execOp
    simp [hx]⟩
  refine wpAny_take (i := 0) (oi := o0) (v := a.eval x) (by simp) hsel ?_ ?_ hQ hy ?_
  · simpa using hfree
  · simpa using hready
  · have htl : (l.take (n - 1)).length = n - 1 := by simp at hn ⊢; omega
    have hdl : ((o0 :: l).drop n).length = (o0 :: l).length - n := by simp
    have inv0 : Head1 .any (o0 :: l).toArray n ((Array.replicate (o0 :: l).length false).setIfInBounds 0 true) := by
      refine ⟨⟨by simp, fun j oj hj hl e he hb => ?_, fun t ht ht' => ?_⟩, by simp⟩
      · by_cases hj0 : j = 0
        · subst hj0
          obtain ⟨_, oi, hoi, hall⟩ := mem_ready.1 (by simpa using hready)
          have : oi = oj := Option.some.inj (hoi.symm.trans hj)
          subst this
          exact getD_set_true (hall e he hb)
        · rw [getD_set_ne false (Ne.symm hj0), getD_replicate_false] at hl; cases hl
      · rw [getD_set_ne true (by omega)]
        exact getD_in (by simpa using ht') (getD_replicate_false _ _)
    have H := head_lex1 (C := C) (md := .any) (g := (o0 :: l).length - n) hsel hs hch (by simpa using hn) (l.take (n - 1)) 1 _ (a.put o0.dst (a.eval x)) (fun j hj => by
      have hj' : j < n - 1 := by rw [htl] at hj; exact hj
      simp [hj', Nat.add_comm 1 j]) (by rw [htl]; omega) inv0 (by rw [htl]; exact hlex) h
    have := any_of_head (Q' := Q) (g := (o0 :: l).length - n) (fun listed a' w' hw' hL => by
      have := wpAny_of_seq (md := .any) (Q' := Q) ((o0 :: l).drop n) n listed a' w' (fun j => by simp [List.getElem?_drop]) (by rw [hdl]; exact hL.1) (hL.2 w' hw')
      rwa [hdl] at this) _ _ _ _ hw H
    rw [htl, show n - 1 + ((o0 :: l).length - n) = (o0 :: l).length - 1 by omega] at this
    exact this
end Go.Proofs.Ytfomidjhmdmmcaa
