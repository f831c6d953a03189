import Derived.BigQuiet
import Derived.WalkKit
import Derived.Below
import Derived.OwnWalk
import Derived.Lib.Hide
import Derived.RangeFuncRecord
import Derived.StillTail
import Derived.Deep.MidRow
import Derived.Deep.WholeRow
import Derived.Laws.CopyOwn
/- Plain mathematics for package extent: the number of pieces, and the pieces. No Go text. -/
namespace Go.Proofs.Ytgmjppjgbalapaa.Plain01

/-- How many pieces of a size an extent of a length has (without the greatest number). -/
def cnt (len size : Int) : Int := if len < 1 ∨ size < 1 then 0 else (len - 1) / size + 1

theorem cnt_none {len size : Int} (h : len < 1 ∨ size < 1) : cnt len size = 0 := by unfold cnt; rw [if_pos h]
theorem cnt_some {len size : Int} (h : 1 ≤ len) (h' : 1 ≤ size) : cnt len size = (len - 1) / size + 1 := by unfold cnt; rw [if_neg (by omega)]

theorem div_bd (len size : Int) (h : 1 ≤ len) (h' : 1 ≤ size) : 0 ≤ (len - 1) / size ∧ (len - 1) / size ≤ len - 1 :=
  ⟨Int.ediv_nonneg (by omega) (by omega), Int.ediv_le_self _ (by omega)⟩

theorem cnt_bd (len size : Int) : 0 ≤ cnt len size ∧ (0 ≤ len → cnt len size ≤ len) := by
  by_cases h : len < 1 ∨ size < 1
  · rw [cnt_none h]; omega
  · have := div_bd len size (by omega) (by omega)
    rw [cnt_some (by omega) (by omega)]; omega

/-- The piece of a number. -/
def piece (off len size : Int) (i : Nat) : Int × Int := (off + (i : Int) * size, min size (len - (i : Int) * size))

/-- A number below the count times the size lies below the length. -/
theorem mul_lt {len size : Int} {i : Nat} (h : (i : Int) < cnt len size) : 1 ≤ len ∧ 1 ≤ size ∧ 0 ≤ (i : Int) * size ∧ (i : Int) * size ≤ len - 1 := by
  by_cases hc : len < 1 ∨ size < 1
  · rw [cnt_none hc] at h; omega
  · rw [cnt_some (by omega) (by omega)] at h
    refine ⟨by omega, by omega, Int.mul_nonneg (by omega) (by omega), ?_⟩
    have h1 : (i : Int) * size ≤ (len - 1) / size * size := Int.mul_le_mul_of_nonneg_right (by omega) (by omega)
    have h2 := Int.ediv_mul_le (len - 1) (b := size) (by omega)
    omega

theorem piece_full {off len size : Int} {i : Nat} (h : size ≤ len - (i : Int) * size) : piece off len size i = (off + (i : Int) * size, size) := by unfold piece; rw [Int.min_eq_left h]
theorem piece_rest {off len size : Int} {i : Nat} (h : len - (i : Int) * size ≤ size) : piece off len size i = (off + (i : Int) * size, len - (i : Int) * size) := by unfold piece; rw [Int.min_eq_right h]

/-- How many pieces Split returns. -/
def nsp (len size : Int) : Nat := if 1048576 < cnt len size then 0 else (cnt len size).toNat
theorem nsp_big {len size : Int} (h : 1048576 < cnt len size) : nsp len size = 0 := by unfold nsp; rw [if_pos h]
theorem nsp_few {len size : Int} (h : cnt len size ≤ 1048576) : nsp len size = (cnt len size).toNat := by unfold nsp; rw [if_neg (by omega)]

end Go.Proofs.Ytgmjppjgbalapaa.Plain01

/- Words of my own for the walks of laws: what a callee gives; a region that draws its order, walked once, in a class of worlds in which some cells hold what they held. -/
namespace Go.Proofs.Ytgmjppjgbalapaa
open Go.RowKit

/-- It returns v, and nothing that was there has changed. -/
def Gives (v : Value) (w : World) (e : Ending) (w' : World) : Prop := e = .returned v ∧ Below w.heap.size w w'

theorem below_drewN {B : Nat} {a w : World} (h : Below B a w) (n : Nat) : Below B a (w.drewN n) := ⟨h.os, h.tape, h.output, h.size, h.block⟩

section
variable {P : Program} {f : FuncId} {args : Array Value} {w : World} {v : Value}
theorem gives_same (h : Calls P f args w fun e w' => e = .returned v ∧ w' = w) : Calls P f args w (Gives v w) :=
  h.mono fun _ _ ⟨he, hw⟩ => ⟨he, by subst hw; exact Below.refl _ _⟩
theorem gives_alloc {o : Obj} (h : Calls P f args w fun e w' => e = .returned v ∧ w' = w.alloc o) : Calls P f args w (Gives v w) :=
  h.mono fun _ _ ⟨he, hw⟩ => ⟨he, hw ▸ (Below.refl _ w).alloc (Nat.le_refl _) o⟩
theorem gives_drawn (h : Calls P f args w fun e w' => e = .returned v ∧ ∃ nq, w' = w.drewN nq) : Calls P f args w (Gives v w) :=
  h.mono fun _ _ ⟨he, nq, hw⟩ => ⟨he, hw ▸ below_drewN (Below.refl _ w) nq⟩
theorem gives_drew {o : Obj} (h : Calls P f args w fun e w' => e = .returned v ∧ ∃ nq, w' = (w.alloc o).drewN nq) : Calls P f args w (Gives v w) :=
  h.mono fun _ _ ⟨he, nq, hw⟩ => ⟨he, hw ▸ below_drewN ((Below.refl _ w).alloc (Nat.le_refl _) o) nq⟩
end

/-- A world in which nothing below w0's heap has changed since w0, and the listed blocks are what they were. -/
structure HeldW (w0 : World) (bs : List (Nat × Obj)) where
  w : World
  below : Below w0.heap.size w0 w
  blocks : ∀ p ∈ bs, w.heap[p.1]? = some p.2

theorem HeldW.call {P : Program} {f : FuncId} {args : Array Value} {v : Value} {w0 : World} {bs : List (Nat × Obj)} {s : HeldW w0 bs} (h : Calls P f args s.w (Gives v s.w)) :
    Calls P f args s.w fun e w'' => e = .returned v ∧ ∃ s' : HeldW w0 bs, w'' = s'.w :=
  h.mono fun _ w'' ⟨he, hb⟩ => ⟨he, ⟨w'', s.below.trans (hb.mono s.below.size), fun p hp => (hb.block _ (Array.getElem?_eq_some_iff.1 (s.blocks p hp)).1).trans (s.blocks p hp)⟩, rfl⟩

/-- The world at the start of a function; a new block laid in a held world. -/
abbrev HeldW.start (w : World) : HeldW w [] := ⟨w, Below.refl _ _, by simp⟩
abbrev HeldW.push {w0 : World} {bs : List (Nat × Obj)} (s : HeldW w0 bs) (o : Obj) : HeldW w0 ((s.w.heap.size, o) :: bs) :=
  ⟨s.w.alloc o, s.below.alloc s.below.size o, List.forall_mem_cons.2 ⟨World.alloc_heap_new s.w o, fun p hp => (Below.heap_alloc _ _ _ (Array.getElem?_eq_some_iff.1 (s.blocks p hp)).1).trans (s.blocks p hp)⟩⟩

/-- From here on: what lies now is old. -/
abbrev HeldW.rebase {w0 : World} {bs : List (Nat × Obj)} (s : HeldW w0 bs) : HeldW s.w bs := ⟨s.w, Below.refl _ _, s.blocks⟩

/-- Fewer blocks are listed. -/
abbrev HeldW.sub {w0 : World} {bs bs' : List (Nat × Obj)} (s : HeldW w0 bs) (h : ∀ p ∈ bs', p ∈ bs) : HeldW w0 bs' := ⟨s.w, s.below, fun p hp => s.blocks p (h p hp)⟩

/-- A callee that gives more than one value: what it gives, behind a definition of its own. -/
theorem HeldW.callQ {P : Program} {f : FuncId} {args : Array Value} {w0 : World} {bs : List (Nat × Obj)} {s : HeldW w0 bs} {R : Ending → World → Prop} {V : Value → World → Prop} (h : Calls P f args s.w R) (hR : ∀ e w', R e w' → ∃ v, e = .returned v ∧ V v w' ∧ Below s.w.heap.size s.w w') :
    Calls P f args s.w fun e w'' => ∃ v, e = .returned v ∧ ∃ s' : HeldW w0 bs, w'' = s'.w ∧ V v s'.w :=
  h.mono fun e w'' hr => by
    obtain ⟨v, he, hv, hb⟩ := hR e w'' hr
    exact ⟨v, he, ⟨w'', s.below.trans (hb.mono s.below.size), fun p hp => (hb.block _ (Array.getElem?_eq_some_iff.1 (s.blocks p hp)).1).trans (s.blocks p hp)⟩, rfl, hv⟩

/-- A region that draws its order, its operations written out: one walk, in the order of the text, in the class of worlds. -/
theorem wp_region_class {P : Program} {id : Nat} {Q : Exit → Act → World → Prop} {a : Act} {w : World} {l : List Oper} (w0 : World) (bs : List (Nat × Obj)) (hm : P.follows .mixedOrders = true) (hB : Region.lexB .any l.toArray = true)
    (hb : Below w0.heap.size w0 w) (hc : ∀ p ∈ bs, w.heap[p.1]? = some p.2)
    (h : Nonempty (HeldW w0 bs) → wpQuiet P l.toArray (fun w' => ∃ s : HeldW w0 bs, w' = s.w) (fun a' => ∀ w', (∃ s : HeldW w0 bs, w' = s.w) → Q .normal a' w') l a) : (Code.region id l.toArray true).wp P Q a w :=
  wp_region_quiet (C := fun w' => ∃ s : HeldW w0 bs, w' = s.w) hm hB ⟨⟨w.drew, hb.drew, hc⟩, rfl⟩ (by simpa using h ⟨⟨w, hb, hc⟩⟩)

/-- A cell of a block that is known whole; it may be written. -/
theorem cell_of {w : World} {b : Nat} {cs : Array Value} {t : TypeId} {fr : Nat × Nat} (h : w.heap[b]? = some (.cells cs t fr)) (i : Nat) : w.cell? ⟨b, i, none⟩ = cs[i]? := by simp [World.cell?, h]
theorem free_of {w : World} {b : Nat} {cs : Array Value} {t : TypeId} (h : w.heap[b]? = some (.cells cs t (0, 0))) (i : Nat) : w.frozen? ⟨b, i, none⟩ = false := by simp [World.frozen?, h]

/-- What is said of each of one, two .. listed things. -/
theorem all1 {α : Type} {Q : α → Prop} {a : α} (ha : Q a) : ∀ p ∈ [a], Q p := by simpa using ha
theorem all2 {α : Type} {Q : α → Prop} {a b : α} (ha : Q a) (hb : Q b) : ∀ p ∈ [a, b], Q p := List.forall_mem_cons.2 ⟨ha, all1 hb⟩
theorem all3 {α : Type} {Q : α → Prop} {a b c : α} (ha : Q a) (hb : Q b) (hc : Q c) : ∀ p ∈ [a, b, c], Q p := List.forall_mem_cons.2 ⟨ha, all2 hb hc⟩
theorem all4 {α : Type} {Q : α → Prop} {a b c d : α} (ha : Q a) (hb : Q b) (hc : Q c) (hd : Q d) : ∀ p ∈ [a, b, c, d], Q p := List.forall_mem_cons.2 ⟨ha, all3 hb hc hd⟩

/-- Blocks of new worlds. -/
theorem heap_new (w : World) (o : Obj) {n : Nat} (hn : n = w.heap.size) : (w.alloc o).heap[n]? = some o := by subst hn; exact World.alloc_heap_new w o
theorem heap_old {w : World} {k : Nat} {o' : Obj} (h : w.heap[k]? = some o') (o : Obj) : (w.alloc o).heap[k]? = some o' := (Below.heap_alloc _ _ _ (Array.getElem?_eq_some_iff.1 h).1).trans h
theorem heap_below {w w1 : World} {k : Nat} {o : Obj} (h : w.heap[k]? = some o) (hb : Below w.heap.size w w1) : w1.heap[k]? = some o := (hb.block _ (Array.getElem?_eq_some_iff.1 h).1).trans h

end Go.Proofs.Ytgmjppjgbalapaa

/- A region that draws its order, whose first n operations leave every world of a class in the class, and whose others come in one forced order: the first n are walked once, in the order of the text; the others as any operations. -/
namespace Go.Proofs.Ytgmjppjgbalapaa
open Go Go.RowKit

section
variable {P : Program} {ops : Array Oper} {md : Region.Mode} {C : World → Prop}

/-- The head of the region, in whatever order. -/
def headAny (P : Program) (md : Region.Mode) (ops : Array Oper) (C : World → Prop) (n : Nat) (L : Array Bool → Act → Prop) : Nat → Array Bool → Act → Prop
  | 0, listed, a => L listed a
  | f + 1, listed, a => Region.ready md ops listed ≠ [] ∧ ∀ i ∈ Region.ready md ops listed, i < n ∧ qOp P ops C i (headAny P md ops C n L f (listed.setIfInBounds i true)) a

theorem any_of_head {n g : Nat} {L : Array Bool → Act → Prop} {Q' : Exit → Act → World → Prop} (hL : ∀ listed a w, C w → L listed a → wpAny P md ops Q' g listed a w) :
    ∀ (f : Nat) (listed : Array Bool) (a : Act) (w : World), C w → headAny P md ops C n L f listed a → wpAny P md ops Q' (f + g) listed a w
  | 0, listed, a, w, hw, h => by rw [Nat.zero_add]; exact hL _ _ _ hw h
  | f + 1, listed, a, w, hw, h => by
    rw [show f + 1 + g = (f + g) + 1 by omega]
    exact ⟨fun h0 => absurd h0 h.1, fun i hi => wpOp_of_qOp hw (fun a' w' hw' h' => any_of_head hL f _ a' w' hw' h') (h.2 i hi).2⟩

theorem head_first {n i : Nat} {oi : Oper} {v : Value} {L : Array Bool → Act → Prop} (hi : ops[i]? = some oi) (hsel : ∀ (j : Nat) (o : Oper) cs b, ops[j]? = some o → o.op ≠ .select cs b)
    (hs : Region.sinkB md ops n = true) (hc : Region.chainB md ops n = true) (hn : n < ops.size) (hin : i < n) (hdone : ∀ listed a, L listed a → ∀ j ∈ Region.ready md ops listed, n ≤ j) :
    ∀ (f : Nat) (listed : Array Bool) (a : Act), HeadInv md ops n listed →
      (∀ j oj, ops[j]? = some oj → j ≠ i → listed.getD j true = false → (∀ e ∈ oj.after, Region.binds md e = true → e.on ≠ i) → oi.apart ops oj = true) →
      i ∈ Region.ready md ops listed → YieldsIn P ops C oi v a →
      headAny P md ops C n L f (listed.setIfInBounds i true) (a.put oi.dst v) → headAny P md ops C n L (f + 1) listed a := by
  intro f
  induction f with
  | zero =>
    intro listed a inv _ hr hy H
    have hun := (mem_ready.1 hr).1
    refine ⟨fun h => (by rw [h] at hr; cases hr), fun j hj => ?_⟩
    have hjn : j < n := by
      rcases Nat.lt_or_ge j n with h | h
      · exact h
      · exact absurd hj (tail_waits hs hc hn inv _ i rfl hin hun j h)
    refine ⟨hjn, ?_⟩
    by_cases hji : j = i
    · subst hji; exact hy.qOp hi H
    · have := hdone _ _ H j (ready_mono hj hji)
      omega
  | succ f ih =>
    intro listed a inv hfree hr hy H
    have hun := (mem_ready.1 hr).1
    refine ⟨fun h => (by rw [h] at hr; cases hr), fun j hj => ?_⟩
    have hjn : j < n := by
      rcases Nat.lt_or_ge j n with h | h
      · exact h
      · exact absurd hj (tail_waits hs hc hn inv _ i rfl hin hun j h)
    refine ⟨hjn, ?_⟩
    by_cases hji : j = i
    · subst hji; exact hy.qOp hi H
    · have h1 := (H.2 j (ready_mono hj hji)).2
      obtain ⟨hjun, oj, hoj, hall⟩ := mem_ready.1 hj
      have hnot : ∀ e ∈ oj.after, Region.binds md e = true → e.on ≠ i := fun e he hb heq => by
        have h1 := hall e he hb
        rw [heq, getD_both hun] at h1
        cases h1
      have h2 := qOp_put hoj (hfree j oj hoj hji hjun hnot) (fun cs b => hsel i oi cs b hi) (fun cs b => hsel j oj cs b hoj) hy h1
      have hfree' : ∀ k ok, ops[k]? = some ok → k ≠ i → (listed.setIfInBounds j true).getD k true = false →
          (∀ e ∈ ok.after, Region.binds md e = true → e.on ≠ i) → oi.apart ops ok = true := fun k ok hk hki hun hno => by
        refine hfree k ok hk hki ?_ hno
        by_cases hjk : j = k
        · subst hjk; exact hjun
        · rw [getD_set_ne true hjk] at hun; exact hun
      refine qOp_mono (fun a' h3 => ih (listed.setIfInBounds j true) a' (inv.set hj hjn) hfree' (ready_mono hr (Ne.symm hji)) h3.1 ?_) h2
      rw [Array.setIfInBounds_comm _ _ hji]
      exact h3.2

theorem head_lex {n g : Nat} {Lq : Act → Prop} (hsel : Region.noSelect ops = true) (hs : Region.sinkB md ops n = true) (hc : Region.chainB md ops n = true) (hn : n < ops.size) :
    ∀ (l : List Oper) (k : Nat) (listed : Array Bool) (a : Act), (∀ j, j < l.length → l[j]? = ops[k + j]?) → k + l.length = n → HeadInv md ops n listed →
    Region.lexHead md ops g l.length k listed = true → wpQuiet P ops C Lq l a →
    headAny P md ops C n (fun listed' a' => Region.seqB md ops g n listed' = true ∧ Lq a') l.length listed a
  | [], k, listed, a, _, hk, _, hB, h => by
    have : k = n := by simpa using hk
    subst this
    exact ⟨by simpa [Region.lexHead] using hB, h⟩
  | o :: l, k, listed, a, hl, hk, inv, hB, h => by
    have h0 : ops[k]? = some o := by simpa using (hl 0 (by simp)).symm
    simp only [List.length_cons, Region.lexHead, Bool.and_eq_true] at hB
    obtain ⟨⟨hr, hf⟩, hB'⟩ := hB
    have hkn : k < n := by simp only [List.length_cons] at hk; omega
    have hr' : k ∈ Region.ready md ops listed := by simpa using hr
    have hst : qOp P ops C k (wpQuiet P ops C Lq l) a := by unfold qOp; simp only [h0]; exact h
    obtain ⟨v, hy, hK⟩ := yieldsIn_of_qOp h0 hst
    exact head_first h0 (Region.noSelect_spec hsel) hs hc hn hkn (fun listed' a' hL => seqB_ready hL.1) l.length listed a inv (Region.free_spec h0 hf) hr' hy
      (head_lex hsel hs hc hn l (k + 1) _ _ (fun j hj => by have := hl (j + 1) (by simp; omega); simpa [Nat.add_assoc, Nat.add_comm 1 j] using this) (by simp only [List.length_cons] at hk; omega) (inv.set hr' hkn) hB' hK)
end

/-- The first n operations in the class of worlds, the others behind them. -/
theorem wp_region_class_tail {P : Program} {id : Nat} {Q : Exit → Act → World → Prop} {a : Act} {w : World} {l : List Oper} (n : Nat) (w0 : World) (bs : List (Nat × Obj)) (hm : P.follows .mixedOrders = true) (hB : Region.lexTailB .any l.toArray n = true)
    (hb : Below w0.heap.size w0 w) (hc : ∀ p ∈ bs, w.heap[p.1]? = some p.2)
    (h : Nonempty (HeldW w0 bs) → wpQuiet P l.toArray (fun w' => ∃ s : HeldW w0 bs, w' = s.w) (fun a' => ∀ w', (∃ s : HeldW w0 bs, w' = s.w) → wpList P l.toArray Q (l.drop n) a' w') (l.take n) a) : (Code.region id l.toArray true).wp P Q a w := by
  simp only [Region.lexTailB, Bool.and_eq_true, decide_eq_true_eq] at hB
  obtain ⟨⟨⟨⟨hsel, hn⟩, hs⟩, hch⟩, hlex⟩ := hB
  have hn' : n < l.length := by simpa using hn
  have htl : (l.take n).length = n := by simp; omega
  have hdl : (l.drop n).length = l.toArray.size - n := by simp
  have inv0 : HeadInv .any l.toArray n (Array.replicate l.toArray.size false) :=
    ⟨by simp, fun j oj _ hl => (by rw [getD_replicate_false] at hl; cases hl), fun t _ ht => getD_in (by simpa using ht) (getD_replicate_false _ _)⟩
  have H := head_lex (C := fun w' => ∃ s : HeldW w0 bs, w' = s.w) (md := .any) (g := l.toArray.size - n) hsel hs hch hn (l.take n) 0 _ a (fun j hj => by
    have hj' : j < n := by rw [htl] at hj; exact hj
    simp [hj']) (by simpa using htl) inv0 (by rw [htl]; exact hlex) (h ⟨⟨w, hb, hc⟩⟩)
  refine wp_region_any hm ?_
  have := any_of_head (Q' := Q) (g := l.toArray.size - n) (fun listed a' w' hw' hL => by
    have := wpAny_of_seq (md := .any) (Q' := Q) (l.drop n) n listed a' w' (fun j => by simp [List.getElem?_drop]) (by rw [hdl]; exact hL.1) (hL.2 w' hw')
    rwa [hdl] at this) _ _ _ _ ⟨⟨w.drew, hb.drew, hc⟩, rfl⟩ H
  rw [htl, show n + (l.toArray.size - n) = l.toArray.size by omega] at this
  exact this

end Go.Proofs.Ytgmjppjgbalapaa

/- A region that draws its order, whose first operation only reads the frame and is taken first; the next ones leave every world of a class in the class; the others come in one forced order behind all but the first. -/
namespace Go.Proofs.Ytgmjppjgbalapaa
open Go Go.RowKit
set_option linter.unusedVariables false

section
variable {P : Program} {ops : Array Oper} {md : Region.Mode} {C : World → Prop}

/-- Each operation from 1 on and below n is waited for. -/
def sink1B (md : Region.Mode) (ops : Array Oper) (n : Nat) : Bool :=
  (List.range n).all fun i => i == 0 || (List.range (n + 1)).any fun j => decide (i < j) && Region.waitsFor md ops j i

/-- The first operation has come up. -/
structure Head1 (md : Region.Mode) (ops : Array Oper) (n : Nat) (listed : Array Bool) : Prop where
  inv : HeadInv md ops n listed
  zero : listed.getD 0 true = true

theorem Head1.set {n i : Nat} {listed : Array Bool} (h : Head1 md ops n listed) (hi : i ∈ Region.ready md ops listed) (hin : i < n) : Head1 md ops n (listed.setIfInBounds i true) :=
  ⟨h.inv.set hi hin, by
    by_cases h0 : i = 0
    · subst h0
      rcases Nat.lt_or_ge 0 listed.size with h' | h'
      · simp [h']
      · simp
    · rw [getD_set_ne true h0]; exact h.zero⟩

theorem tail_waits1 {n : Nat} {listed : Array Bool} (hs : sink1B md ops n = true) (hc : Region.chainB md ops n = true) (hn : n < ops.size) (inv : Head1 md ops n listed) :
    ∀ (d i : Nat), n - i = d → i < n → listed.getD i true = false → ∀ t, n ≤ t → t ∉ Region.ready md ops listed := by
  intro d
  induction d using Nat.strongRecOn with
  | _ d ih =>
    intro i hd hi hun t ht hr
    obtain ⟨_, ot, hot, hall⟩ := mem_ready.1 hr
    have htlt : t < ops.size := (Array.getElem?_eq_some_iff.1 hot).1
    by_cases htn : t = n
    · subst htn
      have h1 := List.all_eq_true.1 hs i (List.mem_range.2 hi)
      simp only [Bool.or_eq_true, beq_iff_eq] at h1
      rcases h1 with rfl | h1
      · rw [inv.zero] at hun; cases hun
      obtain ⟨j, hj, hj2⟩ := List.any_eq_true.1 h1
      simp only [Bool.and_eq_true, decide_eq_true_eq] at hj2
      obtain ⟨oj, hoj, e, he, hb, hon⟩ := Region.waitsFor_spec hj2.2
      have hjle : j ≤ t := by have := List.mem_range.1 hj; omega
      by_cases hjt : j = t
      · subst hjt
        have : oj = ot := Option.some.inj (hoj.symm.trans hot)
        subst this
        have h2 := hall e he hb
        rw [hon, getD_both hun] at h2
        cases h2
      · cases hl : listed.getD j false with
        | true =>
          have h2 := inv.inv.closed j oj hoj hl e he hb
          rw [hon, getD_both hun] at h2
          cases h2
        | false =>
          have hjs : j < listed.size := by rw [inv.inv.size]; omega
          exact ih (t - j) (by omega) j rfl (by omega) (getD_in hjs hl) t (Nat.le_refl _) hr
    · have h1 := List.all_eq_true.1 hc t (List.mem_range.2 htlt)
      simp only [Bool.or_eq_true, decide_eq_true_eq] at h1
      rcases h1 with h1 | h1
      · omega
      · obtain ⟨o', ho', e, he, hb, hon⟩ := Region.waitsFor_spec h1
        have : o' = ot := Option.some.inj (ho'.symm.trans hot)
        subst this
        have h2 := hall e he hb
        rw [hon, getD_both (inv.inv.tail (t - 1) (by omega) (by omega))] at h2
        cases h2

theorem head_first1 {n i : Nat} {oi : Oper} {v : Value} {L : Array Bool → Act → Prop} (hi : ops[i]? = some oi) (hsel : ∀ (j : Nat) (o : Oper) cs b, ops[j]? = some o → o.op ≠ .select cs b)
    (hs : sink1B md ops n = true) (hc : Region.chainB md ops n = true) (hn : n < ops.size) (hin : i < n) (hdone : ∀ listed a, L listed a → ∀ j ∈ Region.ready md ops listed, n ≤ j) :
    ∀ (f : Nat) (listed : Array Bool) (a : Act), Head1 md ops n listed →
      (∀ j oj, ops[j]? = some oj → j ≠ i → listed.getD j true = false → (∀ e ∈ oj.after, Region.binds md e = true → e.on ≠ i) → oi.apart ops oj = true) →
      i ∈ Region.ready md ops listed → YieldsIn P ops C oi v a →
      headAny P md ops C n L f (listed.setIfInBounds i true) (a.put oi.dst v) → headAny P md ops C n L (f + 1) listed a := by
  intro f
  induction f with
  | zero =>
    intro listed a inv _ hr hy H
    have hun := (mem_ready.1 hr).1
    refine ⟨fun h => (by rw [h] at hr; cases hr), fun j hj => ?_⟩
    have hjn : j < n := by
      rcases Nat.lt_or_ge j n with h | h
      · exact h
      · exact absurd hj (tail_waits1 hs hc hn inv _ i rfl hin hun j h)
    refine ⟨hjn, ?_⟩
    by_cases hji : j = i
    · subst hji; exact hy.qOp hi H
    · have := hdone _ _ H j (ready_mono hj hji)
      omega
  | succ f ih =>
    intro listed a inv hfree hr hy H
    have hun := (mem_ready.1 hr).1
    refine ⟨fun h => (by rw [h] at hr; cases hr), fun j hj => ?_⟩
    have hjn : j < n := by
      rcases Nat.lt_or_ge j n with h | h
      · exact h
      · exact absurd hj (tail_waits1 hs hc hn inv _ i rfl hin hun j h)
    refine ⟨hjn, ?_⟩
    by_cases hji : j = i
    · subst hji; exact hy.qOp hi H
    · have h1 := (H.2 j (ready_mono hj hji)).2
      obtain ⟨hjun, oj, hoj, hall⟩ := mem_ready.1 hj
      have hnot : ∀ e ∈ oj.after, Region.binds md e = true → e.on ≠ i := fun e he hb heq => by
        have h1 := hall e he hb
        rw [heq, getD_both hun] at h1
        cases h1
      have h2 := qOp_put hoj (hfree j oj hoj hji hjun hnot) (fun cs b => hsel i oi cs b hi) (fun cs b => hsel j oj cs b hoj) hy h1
      have hfree' : ∀ k ok, ops[k]? = some ok → k ≠ i → (listed.setIfInBounds j true).getD k true = false →
          (∀ e ∈ ok.after, Region.binds md e = true → e.on ≠ i) → oi.apart ops ok = true := fun k ok hk hki hun hno => by
        refine hfree k ok hk hki ?_ hno
        by_cases hjk : j = k
        · subst hjk; exact hjun
        · rw [getD_set_ne true hjk] at hun; exact hun
      refine qOp_mono (fun a' h3 => ih (listed.setIfInBounds j true) a' (inv.set hj hjn) hfree' (ready_mono hr (Ne.symm hji)) h3.1 ?_) h2
      rw [Array.setIfInBounds_comm _ _ hji]
      exact h3.2

theorem head_lex1 {n g : Nat} {Lq : Act → Prop} (hsel : Region.noSelect ops = true) (hs : sink1B md ops n = true) (hc : Region.chainB md ops n = true) (hn : n < ops.size) :
    ∀ (l : List Oper) (k : Nat) (listed : Array Bool) (a : Act), (∀ j, j < l.length → l[j]? = ops[k + j]?) → k + l.length = n → Head1 md ops n listed →
    Region.lexHead md ops g l.length k listed = true → wpQuiet P ops C Lq l a →
    headAny P md ops C n (fun listed' a' => Region.seqB md ops g n listed' = true ∧ Lq a') l.length listed a
  | [], k, listed, a, _, hk, _, hB, h => by
    have : k = n := by simpa using hk
    subst this
    exact ⟨by simpa [Region.lexHead] using hB, h⟩
  | o :: l, k, listed, a, hl, hk, inv, hB, h => by
    have h0 : ops[k]? = some o := by simpa using (hl 0 (by simp)).symm
    simp only [List.length_cons, Region.lexHead, Bool.and_eq_true] at hB
    obtain ⟨⟨hr, hf⟩, hB'⟩ := hB
    have hkn : k < n := by simp only [List.length_cons] at hk; omega
    have hr' : k ∈ Region.ready md ops listed := by simpa using hr
    have hst : qOp P ops C k (wpQuiet P ops C Lq l) a := by unfold qOp; simp only [h0]; exact h
    obtain ⟨v, hy, hK⟩ := yieldsIn_of_qOp h0 hst
    exact head_first1 h0 (Region.noSelect_spec hsel) hs hc hn hkn (fun listed' a' hL => seqB_ready hL.1) l.length listed a inv (Region.free_spec h0 hf) hr' hy
      (head_lex1 hsel hs hc hn l (k + 1) _ _ (fun j hj => by have := hl (j + 1) (by simp; omega); simpa [Nat.add_assoc, Nat.add_comm 1 j] using this) (by simp only [List.length_cons] at hk; omega) (inv.set hr' hkn) hB' hK)
end

/-- What the program must look like: the first operation is free and ready, each later one below n is waited for, those behind n form a chain. -/
def tail1B (l : List Oper) (n : Nat) : Bool :=
  Region.noSelect l.toArray && decide (1 ≤ n) && decide (n < l.length) && sink1B .any l.toArray n && Region.chainB .any l.toArray n &&
  Region.lexHead .any l.toArray (l.length - n) (n - 1) 1 ((Array.replicate l.length false).setIfInBounds 0 true) &&
  Region.free .any l.toArray (Array.replicate l.length false) 0 && (Region.ready .any l.toArray (Array.replicate l.length false)).contains 0

/-- The first operation is a move of a slot; the next ones, up to n, in the class of worlds; the others behind them. -/
theorem wp_region_tail1 {P : Program} {id : Nat} {Q : Exit → Act → World → Prop} {a : Act} {w : World} {o0 : Oper} {l : List Oper} (n : Nat) (C : World → Prop) (x : Operand) (hx : o0.op = .move x) (hg : o0.guard = none) (hm : P.follows .mixedOrders = true) (hB : tail1B (o0 :: l) n = true) (hw : C w.drew)
    (hQ : ∀ c a' w', Q (.panic c) (a'.put o0.dst (a.eval x)) w' → Q (.panic c) a' w')
    (h' : wpQuiet P (o0 :: l).toArray C (fun a' => ∀ w', C w' → wpList P (o0 :: l).toArray Q ((o0 :: l).drop n) a' w') ((o0 :: l).take n) a) : (Code.region id (o0 :: l).toArray true).wp P Q a w := by
  have h : wpQuiet P (o0 :: l).toArray C (fun a' => ∀ w', C w' → wpList P (o0 :: l).toArray Q ((o0 :: l).drop n) a' w') (l.take (n - 1)) (a.put o0.dst (a.eval x)) := by
    have hn : n = (n - 1) + 1 := by
      unfold tail1B at hB
      simp only [Bool.and_eq_true, decide_eq_true_eq] at hB
      omega
    rw [hn, List.take_succ_cons] at h'
    rw [← hn] at h'
    unfold wpQuiet at h'
    rw [if_pos (by simp [Region.wanted, hg])] at h'
    obtain ⟨v, h1, h2⟩ := h'
    have h3 := h1 _ hw
    have he : a.eval x = v := by
      unfold Oper.quietAt execOp at h3
      simp [hx, Oper.quietUpon] at h3
      exact h3
    rw [he]
    exact h2
  unfold tail1B at hB
  simp only [Bool.and_eq_true, decide_eq_true_eq] at hB
  obtain ⟨⟨⟨⟨⟨⟨⟨hsel, hn1⟩, hn⟩, hs⟩, hch⟩, hlex⟩, hfree⟩, hready⟩ := hB
  have hsz : (o0 :: l).toArray.size = (o0 :: l).length := by simp
  refine wp_region_any hm ?_
  rw [hsz, show (o0 :: l).length = ((o0 :: l).length - 1) + 1 by simp]
  have hy : Yields P (o0 :: l).toArray o0 (a.eval x) a := Or.inl ⟨by simp [Region.wanted, hg], fun w => by
    unfold execOp
    simp [hx]⟩
  refine wpAny_take (i := 0) (oi := o0) (v := a.eval x) (by simp) hsel ?_ ?_ hQ hy ?_
  · simpa using hfree
  · simpa using hready
  · have htl : (l.take (n - 1)).length = n - 1 := by simp at hn ⊢; omega
    have hdl : ((o0 :: l).drop n).length = (o0 :: l).length - n := by simp
    have inv0 : Head1 .any (o0 :: l).toArray n ((Array.replicate (o0 :: l).length false).setIfInBounds 0 true) := by
      refine ⟨⟨by simp, fun j oj hj hl e he hb => ?_, fun t ht ht' => ?_⟩, by simp⟩
      · by_cases hj0 : j = 0
        · subst hj0
          obtain ⟨_, oi, hoi, hall⟩ := mem_ready.1 (by simpa using hready)
          have : oi = oj := Option.some.inj (hoi.symm.trans hj)
          subst this
          exact getD_set_true (hall e he hb)
        · rw [getD_set_ne false (Ne.symm hj0), getD_replicate_false] at hl; cases hl
      · rw [getD_set_ne true (by omega)]
        exact getD_in (by simpa using ht') (getD_replicate_false _ _)
    have H := head_lex1 (C := C) (md := .any) (g := (o0 :: l).length - n) hsel hs hch (by simpa using hn) (l.take (n - 1)) 1 _ (a.put o0.dst (a.eval x)) (fun j hj => by
      have hj' : j < n - 1 := by rw [htl] at hj; exact hj
      simp [hj', Nat.add_comm 1 j]) (by rw [htl]; omega) inv0 (by rw [htl]; exact hlex) h
    have := any_of_head (Q' := Q) (g := (o0 :: l).length - n) (fun listed a' w' hw' hL => by
      have := wpAny_of_seq (md := .any) (Q' := Q) ((o0 :: l).drop n) n listed a' w' (fun j => by simp [List.getElem?_drop]) (by rw [hdl]; exact hL.1) (hL.2 w' hw')
      rwa [hdl] at this) _ _ _ _ hw H
    rw [htl, show n - 1 + ((o0 :: l).length - n) = (o0 :: l).length - 1 by omega] at this
    exact this
end Go.Proofs.Ytgmjppjgbalapaa

/- Classes of worlds in which a listed block may be written, or a callee may write one old block. -/
namespace Go.Proofs.Ytgmjppjgbalapaa
open Go.RowKit
set_option linter.unusedVariables false

/-- A store into a listed block of the call's own. -/
def HeldW.store {w0 : World} {b i : Nat} {cs cs' : Array Value} {t : TypeId} {v : Value} {bs : List (Nat × Obj)} (s : HeldW w0 ((b, .cells cs t (0, 0)) :: bs)) (hb : w0.heap.size ≤ b) (hne : ∀ p ∈ bs, p.1 ≠ b)
    (he : cs.setIfInBounds i v = cs') : HeldW w0 ((b, .cells cs' t (0, 0)) :: bs) :=
  ⟨s.w.setCell ⟨b, i, none⟩ v, s.below.setCell hb v, List.forall_mem_cons.2
    ⟨by subst he; exact heap_setCell_same _ _ _ _ _ _ (s.blocks _ List.mem_cons_self),
     fun p hp => (Below.heap_setCell _ _ _ _ (hne p hp)).trans (s.blocks p (List.mem_cons_of_mem _ hp))⟩⟩

/-- A whole row into a listed block of the call's own. -/
def HeldW.row {w0 : World} {b : Nat} {cs cs' : Array Value} {t : TypeId} {bs : List (Nat × Obj)} (s : HeldW w0 ((b, .cells cs t (0, 0)) :: bs)) (hb : w0.heap.size ≤ b) (hne : ∀ p ∈ bs, p.1 ≠ b) :
    HeldW w0 ((b, .cells cs' t (0, 0)) :: bs) :=
  ⟨s.w.setRow b cs', below_setRow s.below hb cs', List.forall_mem_cons.2
    ⟨setRow_heap _ _ _ _ _ _ (s.blocks _ List.mem_cons_self),
     fun p hp => (setRow_other _ _ _ _ (hne p hp)).trans (s.blocks p (List.mem_cons_of_mem _ hp))⟩⟩

/-- A draw. -/
def HeldW.drawn {w0 : World} {bs : List (Nat × Obj)} (s : HeldW w0 bs) (n : Nat) : HeldW w0 bs := ⟨s.w.drewN n, below_drewN s.below n, s.blocks⟩

/-- Below B nothing but block h has changed. -/
structure But (h B : Nat) (w w' : World) : Prop where
  os : w'.os = w.os
  tape : w'.tape = w.tape
  output : w'.output = w.output
  size : w.heap.size ≤ w'.heap.size
  block : ∀ k, k < B → k ≠ h → w'.heap[k]? = w.heap[k]?
theorem But.refl (h B : Nat) (w : World) : But h B w w := ⟨rfl, rfl, rfl, Nat.le_refl _, fun _ _ _ => rfl⟩
theorem But.of_below {h B : Nat} {w w' : World} (b : Below B w w') : But h B w w' := ⟨b.os, b.tape, b.output, b.size, fun k hk _ => b.block k hk⟩
theorem But.trans {h B : Nat} {a b c : World} (p : But h B a b) (q : But h B b c) : But h B a c :=
  ⟨q.os.trans p.os, q.tape.trans p.tape, q.output.trans p.output, Nat.le_trans p.size q.size, fun i hi hn => (q.block i hi hn).trans (p.block i hi hn)⟩
theorem But.mono {h B B' : Nat} {w w' : World} (p : But h B w w') (hB : B' ≤ B) : But h B' w w' := ⟨p.os, p.tape, p.output, p.size, fun k hk => p.block k (Nat.lt_of_lt_of_le hk hB)⟩
theorem But.below {h B : Nat} {w w' : World} (p : But h B w w') (hB : B ≤ h) : Below B w w' := ⟨p.os, p.tape, p.output, p.size, fun k hk => p.block k hk (by omega)⟩
theorem But.store {h B : Nat} {a w : World} (p : But h B a w) (i : Nat) (v : Value) : But h B a (w.setCell ⟨h, i, none⟩ v) :=
  p.trans ⟨rfl, rfl, rfl, by simp [World.setCell], fun k _ hn => Below.heap_setCell _ _ _ _ hn⟩

/-- It returns v; of what was there only block h has changed: it holds o now. -/
def Puts (h : Nat) (o : Obj) (v : Value) (w : World) (e : Ending) (w' : World) : Prop := e = .returned v ∧ But h w.heap.size w w' ∧ w'.heap[h]? = some o

/-- A world in which nothing below w0's heap but block h has changed since w0, and the listed blocks are what they were. -/
structure HeldX (w0 : World) (h : Nat) (bs : List (Nat × Obj)) where
  w : World
  but : But h w0.heap.size w0 w
  blocks : ∀ p ∈ bs, w.heap[p.1]? = some p.2

abbrev HeldX.start {w : World} {h : Nat} {o : Obj} (ho : w.heap[h]? = some o) : HeldX w h [(h, o)] := ⟨w, But.refl _ _ _, by simpa using ho⟩
abbrev HeldX.push {w0 : World} {h : Nat} {bs : List (Nat × Obj)} (s : HeldX w0 h bs) (o : Obj) : HeldX w0 h ((s.w.heap.size, o) :: bs) :=
  ⟨s.w.alloc o, s.but.trans (But.of_below ((Below.refl _ _).alloc s.but.size o)), List.forall_mem_cons.2 ⟨World.alloc_heap_new s.w o, fun p hp => (Below.heap_alloc _ _ _ (Array.getElem?_eq_some_iff.1 (s.blocks p hp)).1).trans (s.blocks p hp)⟩⟩
abbrev HeldX.sub {w0 : World} {h : Nat} {bs bs' : List (Nat × Obj)} (s : HeldX w0 h bs) (hs : ∀ p ∈ bs', p ∈ bs) : HeldX w0 h bs' := ⟨s.w, s.but, fun p hp => s.blocks p (hs p hp)⟩
def HeldX.drawn {w0 : World} {h : Nat} {bs : List (Nat × Obj)} (s : HeldX w0 h bs) (n : Nat) : HeldX w0 h bs := ⟨s.w.drewN n, ⟨s.but.os, s.but.tape, s.but.output, s.but.size, s.but.block⟩, s.blocks⟩

/-- A callee that changes nothing that was there. -/
theorem HeldX.call {P : Program} {f : FuncId} {args : Array Value} {v : Value} {w0 : World} {h : Nat} {bs : List (Nat × Obj)} {s : HeldX w0 h bs} (hc : Calls P f args s.w (Gives v s.w)) :
    Calls P f args s.w fun e w'' => e = .returned v ∧ ∃ s' : HeldX w0 h bs, w'' = s'.w :=
  hc.mono fun _ w'' ⟨he, hb⟩ => ⟨he, ⟨w'', s.but.trans ((But.of_below hb).mono s.but.size), fun p hp => (hb.block _ (Array.getElem?_eq_some_iff.1 (s.blocks p hp)).1).trans (s.blocks p hp)⟩, rfl⟩

/-- A callee that writes block g, which may be the block that may be written, or one of the call's own. -/
theorem HeldX.puts {P : Program} {f : FuncId} {args : Array Value} {v : Value} {w0 : World} {h g : Nat} {o o' : Obj} {bs : List (Nat × Obj)} {s : HeldX w0 h ((g, o) :: bs)} (hc : Calls P f args s.w (Puts g o' v s.w))
    (hg : g = h ∨ w0.heap.size ≤ g) (hne : ∀ p ∈ bs, p.1 ≠ g) :
    Calls P f args s.w fun e w'' => e = .returned v ∧ ∃ s' : HeldX w0 h ((g, o') :: bs), w'' = s'.w :=
  hc.mono fun _ w'' ⟨he, hb, ho⟩ => ⟨he, ⟨w'', s.but.trans ⟨hb.os, hb.tape, hb.output, hb.size, fun k hk hn => hb.block k (Nat.lt_of_lt_of_le hk s.but.size) (by rcases hg with rfl | hg <;> omega)⟩,
    List.forall_mem_cons.2 ⟨ho, fun p hp => (hb.block _ (Array.getElem?_eq_some_iff.1 (s.blocks p (List.mem_cons_of_mem _ hp))).1 (hne p hp)).trans (s.blocks p (List.mem_cons_of_mem _ hp))⟩⟩, rfl⟩
/-- The same in a law's class of worlds: the block is one of the call's own. -/
theorem HeldW.puts {P : Program} {f : FuncId} {args : Array Value} {v : Value} {w0 : World} {g : Nat} {o o' : Obj} {bs : List (Nat × Obj)} {s : HeldW w0 ((g, o) :: bs)} (hc : Calls P f args s.w (Puts g o' v s.w))
    (hg : w0.heap.size ≤ g) (hne : ∀ p ∈ bs, p.1 ≠ g) :
    Calls P f args s.w fun e w'' => e = .returned v ∧ ∃ s' : HeldW w0 ((g, o') :: bs), w'' = s'.w :=
  hc.mono fun _ w'' ⟨he, hb, ho⟩ => ⟨he, ⟨w'', s.below.trans ⟨hb.os, hb.tape, hb.output, hb.size, fun k hk => hb.block k (Nat.lt_of_lt_of_le hk s.below.size) (by omega)⟩,
    List.forall_mem_cons.2 ⟨ho, fun p hp => (hb.block _ (Array.getElem?_eq_some_iff.1 (s.blocks p (List.mem_cons_of_mem _ hp))).1 (hne p hp)).trans (s.blocks p (List.mem_cons_of_mem _ hp))⟩⟩, rfl⟩

/-- A store into the listed block that may be written. -/
def HeldX.store {w0 : World} {h b i : Nat} {cs cs' : Array Value} {t : TypeId} {v : Value} {bs : List (Nat × Obj)} (s : HeldX w0 h ((b, .cells cs t (0, 0)) :: bs)) (hb : b = h ∨ w0.heap.size ≤ b) (hne : ∀ p ∈ bs, p.1 ≠ b)
    (he : cs.setIfInBounds i v = cs') : HeldX w0 h ((b, .cells cs' t (0, 0)) :: bs) :=
  ⟨s.w.setCell ⟨b, i, none⟩ v, s.but.trans ⟨rfl, rfl, rfl, by simp [World.setCell], fun k hk hn => Below.heap_setCell _ _ _ _ (by simp only; have := s.but.size; omega)⟩, List.forall_mem_cons.2
    ⟨by subst he; exact heap_setCell_same _ _ _ _ _ _ (s.blocks _ List.mem_cons_self),
     fun p hp => (Below.heap_setCell _ _ _ _ (hne p hp)).trans (s.blocks p (List.mem_cons_of_mem _ hp))⟩⟩

/-- A whole row into the listed block that may be written. -/
def HeldX.row {w0 : World} {h b : Nat} {cs : Array Value} {t : TypeId} {bs : List (Nat × Obj)} (s : HeldX w0 h ((b, .cells cs t (0, 0)) :: bs)) (hb : b = h ∨ w0.heap.size ≤ b) (hne : ∀ p ∈ bs, p.1 ≠ b) (cs' : Array Value) :
    HeldX w0 h ((b, .cells cs' t (0, 0)) :: bs) :=
  ⟨s.w.setRow b cs', s.but.trans ⟨rfl, rfl, rfl, by simp, fun k hk hn => setRow_other _ _ _ _ (by have := s.but.size; omega)⟩, List.forall_mem_cons.2
    ⟨setRow_heap _ _ _ _ _ _ (s.blocks _ List.mem_cons_self),
     fun p hp => (setRow_other _ _ _ _ (hne p hp)).trans (s.blocks p (List.mem_cons_of_mem _ hp))⟩⟩

/-- A region that draws its order, in any class of worlds that a draw does not leave: walked once. -/
theorem wp_region_inC {P : Program} {id : Nat} {Q : Exit → Act → World → Prop} {a : Act} {w : World} {l : List Oper} (C : World → Prop) (hm : P.follows .mixedOrders = true) (hB : Region.lexB .any l.toArray = true) (hw : C w.drew)
    (h : wpQuiet P l.toArray C (fun a' => ∀ w', C w' → Q .normal a' w') l a) : (Code.region id l.toArray true).wp P Q a w :=
  wp_region_quiet (C := C) hm hB hw (by simpa using h)
/-- The same, where the operations behind the first n come in one forced order. -/
theorem wp_region_inC_tail {P : Program} {id : Nat} {Q : Exit → Act → World → Prop} {a : Act} {w : World} {l : List Oper} (n : Nat) (C : World → Prop) (hm : P.follows .mixedOrders = true) (hB : Region.lexTailB .any l.toArray n = true) (hw : C w.drew)
    (h : wpQuiet P l.toArray C (fun a' => ∀ w', C w' → wpList P l.toArray Q (l.drop n) a' w') (l.take n) a) : (Code.region id l.toArray true).wp P Q a w := by
  simp only [Region.lexTailB, Bool.and_eq_true, decide_eq_true_eq] at hB
  obtain ⟨⟨⟨⟨hsel, hn⟩, hs⟩, hch⟩, hlex⟩ := hB
  have hn' : n < l.length := by simpa using hn
  have htl : (l.take n).length = n := by simp; omega
  have hdl : (l.drop n).length = l.toArray.size - n := by simp
  have inv0 : HeadInv .any l.toArray n (Array.replicate l.toArray.size false) :=
    ⟨by simp, fun j oj _ hl => (by rw [getD_replicate_false] at hl; cases hl), fun t _ ht => getD_in (by simpa using ht) (getD_replicate_false _ _)⟩
  have H := head_lex (C := C) (md := .any) (g := l.toArray.size - n) hsel hs hch hn (l.take n) 0 _ a (fun j hj => by
    have hj' : j < n := by rw [htl] at hj; exact hj
    simp [hj']) (by simpa using htl) inv0 (by rw [htl]; exact hlex) h
  refine wp_region_any hm ?_
  have := any_of_head (Q' := Q) (g := l.toArray.size - n) (fun listed a' w' hw' hL => by
    have := wpAny_of_seq (md := .any) (Q' := Q) (l.drop n) n listed a' w' (fun j => by simp [List.getElem?_drop]) (by rw [hdl]; exact hL.1) (hL.2 w' hw')
    rwa [hdl] at this) _ _ _ _ hw H
  rw [htl, show n + (l.toArray.size - n) = l.toArray.size by omega] at this
  exact this

/-- HeldX's class. -/
theorem HeldX.drewC {w0 : World} {h : Nat} {bs : List (Nat × Obj)} (s : HeldX w0 h bs) : ∃ s' : HeldX w0 h bs, s.w.drew = s'.w := ⟨⟨s.w.drew, ⟨s.but.os, s.but.tape, s.but.output, s.but.size, s.but.block⟩, s.blocks⟩, rfl⟩
theorem wp_region_X {P : Program} {id : Nat} {Q : Exit → Act → World → Prop} {a : Act} {l : List Oper} {w0 : World} {h : Nat} {bs : List (Nat × Obj)} (s : HeldX w0 h bs) (hm : P.follows .mixedOrders = true) (hB : Region.lexB .any l.toArray = true)
    (H : Nonempty (HeldX w0 h bs) → wpQuiet P l.toArray (fun w' => ∃ s : HeldX w0 h bs, w' = s.w) (fun a' => ∀ w', (∃ s : HeldX w0 h bs, w' = s.w) → Q .normal a' w') l a) : (Code.region id l.toArray true).wp P Q a s.w :=
  wp_region_inC _ hm hB s.drewC (H ⟨s⟩)
theorem wp_region_X_tail {P : Program} {id : Nat} {Q : Exit → Act → World → Prop} {a : Act} {l : List Oper} {w0 : World} {h : Nat} {bs : List (Nat × Obj)} (n : Nat) (s : HeldX w0 h bs) (hm : P.follows .mixedOrders = true) (hB : Region.lexTailB .any l.toArray n = true)
    (H : Nonempty (HeldX w0 h bs) → wpQuiet P l.toArray (fun w' => ∃ s : HeldX w0 h bs, w' = s.w) (fun a' => ∀ w', (∃ s : HeldX w0 h bs, w' = s.w) → wpList P l.toArray Q (l.drop n) a' w') (l.take n) a) : (Code.region id l.toArray true).wp P Q a s.w :=
  wp_region_inC_tail n _ hm hB s.drewC (H ⟨s⟩)

end Go.Proofs.Ytgmjppjgbalapaa
