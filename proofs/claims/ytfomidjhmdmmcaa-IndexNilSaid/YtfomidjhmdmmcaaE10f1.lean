import Derived.BigQuiet
import Derived.WalkKit
import Derived.Below
import Derived.OwnWalk
import Derived.Lib.Hide
import Derived.RangeFuncRecord
import Derived.Deep.QuietTactic
import Derived.Outline
import Derived.Shelf.Abstract
import Derived.Test.YtfomidjhmdmmcaaProg
import Derived.Test.YtfomidjhmdmmcaaChecked
import Derived.ProofKit
import Derived.OpenShut
import Derived.Deep.Slices
/- Words of my own for the walks of laws: what a callee gives; a region that draws its order, walked once, in a class of worlds in which some cells hold what they held. -/
namespace Go.Proofs.Ytfomidjhmdmmcaa
open Go.RowKit

/-- It returns v, and nothing that was there has changed. -/
def Gives (v : Value) (w : World) (e : Ending) (w' : World) : Prop := e = .returned v ∧ Below w.heap.size w w'

theorem below_drewN {B : Nat} {a w : World} (h : Below B a w) (n : Nat) : Below B a (w.drewN n) := ⟨h.os, h.tape, h.output, h.size, h.block⟩

section
variable {P : Program} {f : FuncId} {args : Array Value} {w : World} {v : Value}
theorem gives_same (h : Calls P f args w fun e w' => e = .returned v ∧ w' = w) : Calls P f args w (Gives v w) :=
  h.mono fun _ _ ⟨he, hw⟩ => ⟨he, by subst hw; exact Below.refl _ _⟩
theorem gives_alloc {o : Obj} (h : Calls P f args w fun e w' => e = .returned v ∧ w' = w.alloc o) : Calls P f args w (Gives v w) :=
  h.mono fun _ _ ⟨he, hw⟩ => ⟨he, hw ▸ (Below.refl _ w).alloc (Nat.le_refl _) o⟩
theorem gives_drawn (h : Calls P f args w fun e w' => e = .returned v ∧ ∃ nq, w' = w.drewN nq) : Calls P f args w (Gives v w) :=
  h.mono fun _ _ ⟨he, nq, hw⟩ => ⟨he, hw ▸ below_drewN (Below.refl _ w) nq⟩
theorem gives_drew {o : Obj} (h : Calls P f args w fun e w' => e = .returned v ∧ ∃ nq, w' = (w.alloc o).drewN nq) : Calls P f args w (Gives v w) :=
  h.mono fun _ _ ⟨he, nq, hw⟩ => ⟨he, hw ▸ below_drewN ((Below.refl _ w).alloc (Nat.le_refl _) o) nq⟩
end

/-- A world in which nothing below w0's heap has changed since w0, and the listed blocks are what they were. -/
structure HeldW (w0 : World) (bs : List (Nat × Obj)) where
  w : World
  below : Below w0.heap.size w0 w
  blocks : ∀ p ∈ bs, w.heap[p.1]? = some p.2

theorem HeldW.call {P : Program} {f : FuncId} {args : Array Value} {v : Value} {w0 : World} {bs : List (Nat × Obj)} {s : HeldW w0 bs} (h : Calls P f args s.w (Gives v s.w)) :
    Calls P f args s.w fun e w'' => e = .returned v ∧ ∃ s' : HeldW w0 bs, w'' = s'.w :=
  h.mono fun _ w'' ⟨he, hb⟩ => ⟨he, ⟨w'', s.below.trans (hb.mono s.below.size), fun p hp => (hb.block _ (Array.getElem?_eq_some_iff.1 (s.blocks p hp)).1).trans (s.blocks p hp)⟩, rfl⟩

/-- The world at the start of a function; a new block laid in a held world. -/
abbrev HeldW.start (w : World) : HeldW w [] := ⟨w, Below.refl _ _, by simp⟩
abbrev HeldW.push {w0 : World} {bs : List (Nat × Obj)} (s : HeldW w0 bs) (o : Obj) : HeldW w0 ((s.w.heap.size, o) :: bs) :=
  ⟨s.w.alloc o, s.below.alloc s.below.size o, List.forall_mem_cons.2 ⟨World.alloc_heap_new s.w o, fun p hp => (Below.heap_alloc _ _ _ (Array.getElem?_eq_some_iff.1 (s.blocks p hp)).1).trans (s.blocks p hp)⟩⟩

/-- From here on: what lies now is old. -/
abbrev HeldW.rebase {w0 : World} {bs : List (Nat × Obj)} (s : HeldW w0 bs) : HeldW s.w bs := ⟨s.w, Below.refl _ _, s.blocks⟩

/-- Fewer blocks are listed. -/
abbrev HeldW.sub {w0 : World} {bs bs' : List (Nat × Obj)} (s : HeldW w0 bs) (h : ∀ p ∈ bs', p ∈ bs) : HeldW w0 bs' := ⟨s.w, s.below, fun p hp => s.blocks p (h p hp)⟩

/-- A callee that gives more than one value: what it gives, behind a definition of its own. -/
theorem HeldW.callQ {P : Program} {f : FuncId} {args : Array Value} {w0 : World} {bs : List (Nat × Obj)} {s : HeldW w0 bs} {R : Ending → World → Prop} {V : Value → World → Prop} (h : Calls P f args s.w R) (hR : ∀ e w', R e w' → ∃ v, e = .returned v ∧ V v w' ∧ Below s.w.heap.size s.w w') :
    Calls P f args s.w fun e w'' => ∃ v, e = .returned v ∧ ∃ s' : HeldW w0 bs, w'' = s'.w ∧ V v s'.w :=
  h.mono fun e w'' hr => by
    obtain ⟨v, he, hv, hb⟩ := hR e w'' hr
    exact ⟨v, he, ⟨w'', s.below.trans (hb.mono s.below.size), fun p hp => (hb.block _ (Array.getElem?_eq_some_iff.1 (s.blocks p hp)).1).trans (s.blocks p hp)⟩, rfl, hv⟩

/-- A region that draws its order, its operations written out: one walk, in the order of the text, in the class of worlds. -/
theorem wp_region_class {P : Program} {id : Nat} {Q : Exit → Act → World → Prop} {a : Act} {w : World} {l : List Oper} (w0 : World) (bs : List (Nat × Obj)) (hm : P.follows .mixedOrders = true) (hB : Region.lexB .any l.toArray = true)
    (hb : Below w0.heap.size w0 w) (hc : ∀ p ∈ bs, w.heap[p.1]? = some p.2)
    (h : Nonempty (HeldW w0 bs) → wpQuiet P l.toArray (fun w' => ∃ s : HeldW w0 bs, w' = s.w) (fun a' => ∀ w', (∃ s : HeldW w0 bs, w' = s.w) → Q .normal a' w') l a) : (Code.region id l.toArray true).wp P Q a w :=
  wp_region_quiet (C := fun w' => ∃ s : HeldW w0 bs, w' = s.w) hm hB ⟨⟨w.drew, hb.drew, hc⟩, rfl⟩ (by simpa using h ⟨⟨w, hb, hc⟩⟩)

/-- A cell of a block that is known whole; it may be written. -/
theorem cell_of {w : World} {b : Nat} {cs : Array Value} {t : TypeId} {fr : Nat × Nat} (h : w.heap[b]? = some (.cells cs t fr)) (i : Nat) : w.cell? ⟨b, i, none⟩ = cs[i]? := by simp [World.cell?, h]
theorem free_of {w : World} {b : Nat} {cs : Array Value} {t : TypeId} (h : w.heap[b]? = some (.cells cs t (0, 0))) (i : Nat) : w.frozen? ⟨b, i, none⟩ = false := by simp [World.frozen?, h]

/-- What is said of each of one, two .. listed things. -/
theorem all1 {α : Type} {Q : α → Prop} {a : α} (ha : Q a) : ∀ p ∈ [a], Q p := by simpa using ha
theorem all2 {α : Type} {Q : α → Prop} {a b : α} (ha : Q a) (hb : Q b) : ∀ p ∈ [a, b], Q p := List.forall_mem_cons.2 ⟨ha, all1 hb⟩
theorem all3 {α : Type} {Q : α → Prop} {a b c : α} (ha : Q a) (hb : Q b) (hc : Q c) : ∀ p ∈ [a, b, c], Q p := List.forall_mem_cons.2 ⟨ha, all2 hb hc⟩
theorem all4 {α : Type} {Q : α → Prop} {a b c d : α} (ha : Q a) (hb : Q b) (hc : Q c) (hd : Q d) : ∀ p ∈ [a, b, c, d], Q p := List.forall_mem_cons.2 ⟨ha, all3 hb hc hd⟩

/-- Blocks of new worlds. -/
theorem heap_new (w : World) (o : Obj) {n : Nat} (hn : n = w.heap.size) : (w.alloc o).heap[n]? = some o := by subst hn; exact World.alloc_heap_new w o
theorem heap_old {w : World} {k : Nat} {o' : Obj} (h : w.heap[k]? = some o') (o : Obj) : (w.alloc o).heap[k]? = some o' := (Below.heap_alloc _ _ _ (Array.getElem?_eq_some_iff.1 h).1).trans h
theorem heap_below {w w1 : World} {k : Nat} {o : Obj} (h : w.heap[k]? = some o) (hb : Below w.heap.size w w1) : w1.heap[k]? = some o := (hb.block _ (Array.getElem?_eq_some_iff.1 h).1).trans h

end Go.Proofs.Ytfomidjhmdmmcaa

/- Plain mathematics for package extent: the number of pieces, and the pieces. No Go text. -/
namespace Go.Proofs.Ytfomidjhmdmmcaa.Plain01

/-- How many pieces of a size an extent of a length has (without the greatest number). -/
def cnt (len size : Int) : Int := if len < 1 ∨ size < 1 then 0 else (len - 1) / size + 1

theorem cnt_none {len size : Int} (h : len < 1 ∨ size < 1) : cnt len size = 0 := by unfold cnt; rw [if_pos h]
theorem cnt_some {len size : Int} (h : 1 ≤ len) (h' : 1 ≤ size) : cnt len size = (len - 1) / size + 1 := by unfold cnt; rw [if_neg (by omega)]

theorem div_bd (len size : Int) (h : 1 ≤ len) (h' : 1 ≤ size) : 0 ≤ (len - 1) / size ∧ (len - 1) / size ≤ len - 1 :=
  ⟨Int.ediv_nonneg (by omega) (by omega), Int.ediv_le_self _ (by omega)⟩

theorem cnt_bd (len size : Int) : 0 ≤ cnt len size ∧ (0 ≤ len → cnt len size ≤ len) := by
  by_cases h : len < 1 ∨ size < 1
  · rw [cnt_none h]; omega
  · have := div_bd len size (by omega) (by omega)
    rw [cnt_some (by omega) (by omega)]; omega

/-- The piece of a number. -/
def piece (off len size : Int) (i : Nat) : Int × Int := (off + (i : Int) * size, min size (len - (i : Int) * size))

/-- A number below the count times the size lies below the length. -/
theorem mul_lt {len size : Int} {i : Nat} (h : (i : Int) < cnt len size) : 1 ≤ len ∧ 1 ≤ size ∧ 0 ≤ (i : Int) * size ∧ (i : Int) * size ≤ len - 1 := by
  by_cases hc : len < 1 ∨ size < 1
  · rw [cnt_none hc] at h; omega
  · rw [cnt_some (by omega) (by omega)] at h
    refine ⟨by omega, by omega, Int.mul_nonneg (by omega) (by omega), ?_⟩
    have h1 : (i : Int) * size ≤ (len - 1) / size * size := Int.mul_le_mul_of_nonneg_right (by omega) (by omega)
    have h2 := Int.ediv_mul_le (len - 1) (b := size) (by omega)
    omega

theorem piece_full {off len size : Int} {i : Nat} (h : size ≤ len - (i : Int) * size) : piece off len size i = (off + (i : Int) * size, size) := by unfold piece; rw [Int.min_eq_left h]
theorem piece_rest {off len size : Int} {i : Nat} (h : len - (i : Int) * size ≤ size) : piece off len size i = (off + (i : Int) * size, len - (i : Int) * size) := by unfold piece; rw [Int.min_eq_right h]

/-- How many pieces Split returns. -/
def nsp (len size : Int) : Nat := if 1048576 < cnt len size then 0 else (cnt len size).toNat
theorem nsp_big {len size : Int} (h : 1048576 < cnt len size) : nsp len size = 0 := by unfold nsp; rw [if_pos h]
theorem nsp_few {len size : Int} (h : cnt len size ≤ 1048576) : nsp len size = (cnt len size).toNat := by unfold nsp; rw [if_neg (by omega)]

end Go.Proofs.Ytfomidjhmdmmcaa.Plain01

/- Extents: values, rows, End and Valid. -/
namespace Go.Proofs.Ytfomidjhmdmmcaa
open Go.RowKit Go.Shelf Go.Proofs.Ytfomidjhmdmmcaa.Plain01

abbrev extV (x : Int × Int) : Value := .agg #[.int .i64 x.1, .int .i64 x.2]

/-- A row of n extents in block b from cell o on. -/
def ExtRow (w : World) (b o n : Nat) (f : Nat → Int × Int) : Prop := ∀ i, i < n → w.cell? ⟨b, o + i * 2, none⟩ = some (.int .i64 (f i).1) ∧ w.cell? ⟨b, o + i * 2 + 1, none⟩ = some (.int .i64 (f i).2)

theorem ExtRow.below {w w' : World} {B b o n : Nat} {f : Nat → Int × Int} (h : ExtRow w b o n f) (hb : Below B w w') (hlt : b < B) : ExtRow w' b o n f := fun i hi =>
  ⟨(hb.cell (p := ⟨b, _, none⟩) hlt).trans (h i hi).1, (hb.cell (p := ⟨b, _, none⟩) hlt).trans (h i hi).2⟩

theorem end_any (off len : Int) (hoff : 0 ≤ off) (hlen : 0 ≤ len) (hsum : off + len ≤ 4611686018427387903) (w : World) :
    Calls Try.prog 31 #[extV (off, len)] w fun e w' => e = .returned (.int .i64 (off + len)) ∧ w' = w.alloc (.cells #[.int .i64 off, .int .i64 len] 30) := by
  go_enter Try.func31, Try.ntmps31
  go_wp2
  go_ret
  exact ⟨rfl, rfl⟩

/-- The extent is valid. -/
def okE (x : Int × Int) : Bool := decide (0 ≤ x.1 ∧ 0 ≤ x.2 ∧ x.1 + x.2 ≤ 4611686018427387903)
theorem okE_iff {x : Int × Int} : okE x = true ↔ 0 ≤ x.1 ∧ 0 ≤ x.2 ∧ x.1 + x.2 ≤ 4611686018427387903 := by simp [okE]

/-- An int of 64 bits. -/
def I64 (a : Int) : Prop := -9223372036854775808 ≤ a ∧ a ≤ 9223372036854775807

theorem valid_any (off len : Int) (h0 : I64 off) (h1 : I64 len) (w : World) :
    Calls Try.prog 30 #[extV (off, len)] w fun e w' => e = .returned (.bool (okE (off, len))) ∧ w' = w.alloc (.cells #[.int .i64 off, .int .i64 len] 30) := by
  unfold I64 at h0 h1
  by_cases c1 : 0 ≤ off
  · by_cases c2 : 0 ≤ len
    · by_cases c3 : off ≤ 4611686018427387903 - len
      · have e : okE (off, len) = true := by rw [okE_iff]; simp; omega
        go_enter Try.func30, Try.ntmps30
        go_wp2
        go_ret
        exact ⟨by first | rfl | (rw [e]; rfl), rfl⟩
      · have e : okE (off, len) = false := by rw [Bool.eq_false_iff, Ne, okE_iff]; simp; omega
        go_enter Try.func30, Try.ntmps30
        go_wp2
        go_ret
        exact ⟨by first | rfl | (rw [e]; rfl), rfl⟩
    · have e : okE (off, len) = false := by rw [Bool.eq_false_iff, Ne, okE_iff]; simp; omega
      go_enter Try.func30, Try.ntmps30
      go_wp2
      go_ret
      exact ⟨by first | rfl | (rw [e]; rfl), rfl⟩
  · have e : okE (off, len) = false := by rw [Bool.eq_false_iff, Ne, okE_iff]; simp; omega
    go_enter Try.func30, Try.ntmps30
    go_wp2
    go_ret
    exact ⟨by first | rfl | (rw [e]; rfl), rfl⟩

end Go.Proofs.Ytfomidjhmdmmcaa

/- What the small functions of package extent and of its reference return; each leaves what was there. -/
namespace Go.Proofs.Ytfomidjhmdmmcaa
open Go.RowKit Go.Shelf Go.Proofs.Ytfomidjhmdmmcaa.Plain01

/-- A boxed extent: the block. -/
abbrev extO (x : Int × Int) : Obj := .cells #[.int .i64 x.1, .int .i64 x.2] 30 (0, 0)

/-- The cells of an extent's block. -/
theorem ext_cells {w : World} {b : Nat} {x : Int × Int} (h : w.heap[b]? = some (extO x)) : w.cell? ⟨b, 0, none⟩ = some (.int .i64 x.1) ∧ w.cell? ⟨b, 1, none⟩ = some (.int .i64 x.2) ∧ ∀ i, w.frozen? ⟨b, i, none⟩ = false :=
  ⟨by rw [cell_of h]; rfl, by rw [cell_of h]; rfl, fun i => free_of h i⟩
theorem held_ext (w0 : World) {bs : List (Nat × Obj)} (b : Nat) (x : Int × Int) (hm : (b, extO x) ∈ bs) :
    (∀ s : HeldW w0 bs, s.w.cell? ⟨b, 0, none⟩ = some (.int .i64 x.1)) ∧ (∀ s : HeldW w0 bs, s.w.cell? ⟨b, 1, none⟩ = some (.int .i64 x.2)) :=
  ⟨fun s => (ext_cells (s.blocks _ hm)).1, fun s => (ext_cells (s.blocks _ hm)).2.1⟩

theorem held_ext1 {w0 : World} {bs : List (Nat × Obj)} (s : HeldW w0 bs) (b : Nat) (x : Int × Int) (hm : (b, extO x) ∈ bs) :
    s.w.cell? ⟨b, 0, none⟩ = some (.int .i64 x.1) ∧ s.w.cell? ⟨b, 1, none⟩ = some (.int .i64 x.2) ∧ ∀ i, s.w.frozen? ⟨b, i, none⟩ = false := ext_cells (s.blocks _ hm)

theorem held_extA {w0 : World} {bs : List (Nat × Obj)} (_ : HeldW w0 bs) (b : Nat) (x : Int × Int) (hm : (b, extO x) ∈ bs) :
    (∀ s : HeldW w0 bs, s.w.cell? ⟨b, 0, none⟩ = some (.int .i64 x.1)) ∧ (∀ s : HeldW w0 bs, s.w.cell? ⟨b, 1, none⟩ = some (.int .i64 x.2)) := held_ext w0 b x hm
/-- The cells of a listed extent, and that its block is an old one. -/
theorem held_ext2 {w0 : World} {bs : List (Nat × Obj)} (s : HeldW w0 bs) (b : Nat) (x : Int × Int) (hm : (b, extO x) ∈ bs) :
    s.w.cell? ⟨b, 0, none⟩ = some (.int .i64 x.1) ∧ s.w.cell? ⟨b, 1, none⟩ = some (.int .i64 x.2) ∧ b < s.w.heap.size := ⟨(ext_cells (s.blocks _ hm)).1, (ext_cells (s.blocks _ hm)).2.1, (Array.getElem?_eq_some_iff.1 (s.blocks _ hm)).1⟩

/-- A boxed extent, behind a callee. -/
theorem boxed_ext {w w1 : World} {o : Obj} (hb1 : Below (w.alloc o).heap.size (w.alloc o) w1) :
    w1.heap[w.heap.size]? = some o ∧ Below w.heap.size w w1 :=
  ⟨heap_below (heap_new w o rfl) hb1, ((Below.refl w.heap.size w).alloc (Nat.le_refl _) _).trans (hb1.mono (by simp))⟩

theorem valid_gives (x : Int × Int) (h0 : I64 x.1) (h1 : I64 x.2) (w : World) : Calls Try.prog 30 #[extV x] w (Gives (.bool (okE x)) w) := gives_alloc (valid_any x.1 x.2 h0 h1 w)
theorem end_gives (x : Int × Int) (h : okE x = true) (w : World) : Calls Try.prog 31 #[extV x] w (Gives (.int .i64 (x.1 + x.2)) w) := by
  rw [okE_iff] at h
  exact gives_alloc (end_any x.1 x.2 h.1 h.2.1 h.2.2 w)

theorem end_gives2 (p q : Int) (hp : 0 ≤ p) (hq : 0 ≤ q) (hs : p + q ≤ 4611686018427387903) (w : World) : Calls Try.prog 31 #[.agg #[.int .i64 p, .int .i64 q]] w (Gives (.int .i64 (p + q)) w) :=
  gives_alloc (end_any p q hp hq hs w)

/-- The extent with a beginning and an end. -/
theorem between_gives (p q : Int) (hp : 0 ≤ p) (hpq : p ≤ q) (hq : q ≤ 4611686018427387903) (w : World) : Calls Try.prog 50 #[.int .i64 p, .int .i64 q] w (Gives (.agg #[.int .i64 p, .int .i64 (q - p)]) w) := by
  go_enter Try.func50, Try.ntmps50
  go_wp2
  refine bodyPost_ret (v := .agg #[.int .i64 p, .int .i64 (q - p)]) (by simp [results, Try.results50, go_sem]) rfl ⟨rfl, ?_⟩
  first | exact (((Below.refl _ w).alloc (Nat.le_refl _) _).setCell (p := ⟨w.heap.size, 0, none⟩) (by simp) _).setCell (p := ⟨w.heap.size, 1, none⟩) (by simp) _ | exact (Below.refl _ w).alloc (Nat.le_refl _) _

theorem okE_false {x : Int × Int} (h : ¬ (0 ≤ x.1 ∧ 0 ≤ x.2 ∧ x.1 + x.2 ≤ 4611686018427387903)) : okE x = false := by rw [Bool.eq_false_iff, Ne, okE_iff]; exact h

theorem rmax_any (w : World) : Calls Try.prog 37 #[] w fun e w' => e = .returned (.int .i64 4611686018427387903) ∧ w' = w := by
  go_enter Try.func37, Try.ntmps37
  go_wp2
  go_ret
  exact ⟨rfl, rfl⟩

theorem rvalid_any (off len : Int) (h0 : I64 off) (h1 : I64 len) (w : World) :
    Calls Try.prog 17 #[extV (off, len)] w fun e w' => e = .returned (.bool (okE (off, len))) ∧ ∃ nq, w' = (w.alloc (.cells #[.int .i64 off, .int .i64 len] 30)).drewN nq := by
  unfold I64 at h0 h1
  by_cases c1 : 0 ≤ off
  · by_cases c2 : 0 ≤ len
    · by_cases c3 : off ≤ 4611686018427387903
      · by_cases c4 : len ≤ 4611686018427387903 - off
        · have e : okE (off, len) = true := by rw [okE_iff]; simp; omega
          have d1 : decide (len ≤ 4611686018427387903 - off) = true := by simp; omega
          go_enter Try.func17, Try.ntmps17
          go_wp2
          go_quiet ((go_at_call 37; exact Calls.quiet_of_same (rmax_any _)))
          go_wp2
          go_ret
          exact ⟨by rw [e]; rfl, _, rfl⟩
        · have e : okE (off, len) = false := okE_false (by simp; omega)
          have d1 : decide (len ≤ 4611686018427387903 - off) = false := by simp; omega
          go_enter Try.func17, Try.ntmps17
          go_wp2
          go_quiet ((go_at_call 37; exact Calls.quiet_of_same (rmax_any _)))
          go_wp2
          go_ret
          exact ⟨by rw [e]; rfl, _, rfl⟩
      · have e : okE (off, len) = false := okE_false (by simp; omega)
        have d1 : decide (off ≤ 4611686018427387903) = false := by simp; omega
        go_enter Try.func17, Try.ntmps17
        go_wp2
        go_quiet ((go_at_call 37; exact Calls.quiet_of_same (rmax_any _)))
        go_wp2
        go_ret
        exact ⟨by rw [e]; rfl, _, rfl⟩
    · have e : okE (off, len) = false := okE_false (by simp; omega)
      have d1 : decide (0 ≤ len) = false := by simp; omega
      go_enter Try.func17, Try.ntmps17
      go_wp2
      go_quiet ((go_at_call 37; exact Calls.quiet_of_same (rmax_any _)))
      go_wp2
      go_ret
      exact ⟨by rw [e]; rfl, _, rfl⟩
  · have e : okE (off, len) = false := okE_false (by simp; omega)
    have d1 : decide (0 ≤ off) = false := by simp; omega
    go_enter Try.func17, Try.ntmps17
    go_wp2
    go_quiet ((go_at_call 37; exact Calls.quiet_of_same (rmax_any _)))
    go_wp2
    go_ret
    exact ⟨by rw [e]; rfl, _, rfl⟩
theorem rvalid_gives (x : Int × Int) (h0 : I64 x.1) (h1 : I64 x.2) (w : World) : Calls Try.prog 17 #[extV x] w (Gives (.bool (okE x)) w) := gives_drew (rvalid_any x.1 x.2 h0 h1 w)

end Go.Proofs.Ytfomidjhmdmmcaa

/- Contains of package extent, at a slice of extents that came in or was made. -/
namespace Go.Proofs.Ytfomidjhmdmmcaa
open Go.RowKit Go.Shelf Go.Proofs.Ytfomidjhmdmmcaa.Plain01

/-- The first n of f lie within e. -/
def insE (e x : Int × Int) : Prop := e.1 ≤ x.1 ∧ x.1 + x.2 ≤ e.1 + e.2
instance (e x : Int × Int) : Decidable (insE e x) := by unfold insE; exact inferInstance
def insB (e : Int × Int) (n : Nat) (f : Nat → Int × Int) : Bool := decide (∀ i, i < n → insE e (f i))

theorem insB_no {e : Int × Int} {n k : Nat} {f : Nat → Int × Int} (hk : k < n) (h : ¬ insE e (f k)) : insB e n f = false := by
  unfold insB; simp only [decide_eq_false_iff_not]; intro h'; exact h (h' k hk)
theorem insB_yes {e : Int × Int} {n : Nat} {f : Nat → Int × Int} (h : ∀ i, i < n → insE e (f i)) : insB e n f = true := by
  unfold insB; simp only [decide_eq_true_eq]; exact h

theorem ins_succ {e : Int × Int} {k : Nat} {f : Nat → Int × Int} (h : ∀ j, j < k → insE e (f j)) (hk : insE e (f k)) : ∀ j, j < k + 1 → insE e (f j) := fun j hj => by
  by_cases hjk : j < k
  · exact h j hjk
  · obtain rfl : j = k := by omega
    exact hk

theorem all_succ {p : Nat → Bool} {k : Nat} (h : ∀ j, j < k → p j = true) (hk : p k = true) : ∀ j, j < k + 1 → p j = true := fun j hj => by
  by_cases hjk : j < k
  · exact h j hjk
  · obtain rfl : j = k := by omega
    exact hk

/-- A slice of n extents. -/
def ExtSlice (w : World) (a : Option Addr) (n : Nat) (f : Nat → Int × Int) : Prop := 0 < n → ∃ b o, a = some ⟨b, o, none⟩ ∧ ExtRow w b o n f

theorem ExtRow.lt {w : World} {b o n : Nat} {f : Nat → Int × Int} (h : ExtRow w b o n f) (hn : 0 < n) : b < w.heap.size := World.block_lt_of_cell? w _ (h 0 hn).1

theorem ExtSlice.below {w w' : World} {a : Option Addr} {n : Nat} {f : Nat → Int × Int} (h : ExtSlice w a n f) (hb : Below w.heap.size w w') : ExtSlice w' a n f := fun hn => by
  obtain ⟨b, o, ha, hr⟩ := h hn
  exact ⟨b, o, ha, hr.below hb (hr.lt hn)⟩

set_option maxRecDepth 100000 in
set_option maxHeartbeats 4000000 in
theorem contains_gives (e : Int × Int) (a : Option Addr) (n cap : Nat) (f : Nat → Int × Int) (he : okE e = true) (hn : n ≤ 9223372036854775807) (w : World) (hs : ExtSlice w a n f) (hf : ∀ i, i < n → okE (f i) = true) :
    Calls Try.prog 27 #[extV e, .slice a n cap] w (Gives (.bool (insB e n f)) w) := by
  obtain ⟨a0, a1, a2⟩ := okE_iff.1 he
  clear he
  go_enter Try.func27, Try.ntmps27
  go_wp2
  go_loopw [9] (fun i wr => ∃ k : Nat, k ≤ n ∧ i = .int .i64 k ∧ (∀ j, j < k → insE e (f j)) ∧ wr.heap[w.heap.size]? = some (extO e) ∧ Below w.heap.size w wr) (fun i _ => n - (intOf i).toNat)
  case atStart => exact ⟨0, Nat.zero_le _, rfl, fun j hj => by omega, heap_new w _ rfl, (Below.refl _ w).alloc (Nat.le_refl _) _⟩
  case round =>
    obtain ⟨k, hk, rfl, hin, hE, hB⟩ := hrel
    by_cases hlt : k < n
    · obtain ⟨b, o, rfl, hr⟩ := hs (by omega)
      have hb := hr.lt (by omega)
      obtain ⟨x0, x1⟩ := hr.below hB hb k hlt
      obtain ⟨f0, f1, f2⟩ := okE_iff.1 (hf k hlt)
      have hblt := (Array.getElem?_eq_some_iff.1 hE).1
      have hBn : Below w.heap.size w (wr.alloc (extO (f k))) := hB.alloc hB.size _
      have g1 : (wr.alloc (extO (f k))).heap[w.heap.size]? = some (extO e) := heap_old hE _
      have g2 : (wr.alloc (extO (f k))).heap[wr.heap.size]? = some (extO (f k)) := heap_new wr _ rfl
      by_cases hc : insE e (f k)
      · have hc' := hc
        unfold insE at hc'
        obtain ⟨hc1, hc2⟩ := hc'
        have hd : decide ((f k).1 < e.1) = false := by simp; omega
        have HC := Lib.hid hc
        have HI := Lib.hid hin
        clear hc hin hs hf hE
        go_wp2
        refine wp_region_class w [(w.heap.size, extO e), (wr.heap.size, extO (f k))] (by kernel_rfl) (by kernel_rfl) hBn (all2 g1 g2) (fun hne => ?_)
        obtain ⟨d0, d1⟩ := held_ext w (bs := [(w.heap.size, extO e), (wr.heap.size, extO (f k))]) w.heap.size e (by simp)
        obtain ⟨e0, e1⟩ := held_ext w (bs := [(w.heap.size, extO e), (wr.heap.size, extO (f k))]) wr.heap.size (f k) (by simp)
        clear g1 g2 hBn hB
        repeat (go_big_quiet_step ((go_at_call 31; exact HeldW.call (end_gives2 _ _ (by omega) (by omega) (by omega) _))))
        refine wpQuiet_nil ?_
        rintro w' ⟨s, rfl⟩
        clear hne d0 d1 e0 e1
        go_wp2
        go_roundw
        case rel => exact ⟨k + 1, by omega, by go_num, ins_succ HI.out HC.out, s.blocks (_, extO e) (by simp), s.below⟩
        case measure => simp [intOf]; omega
      · have hno := insB_no hlt hc
        have HN := Lib.hid hno
        unfold insE at hc
        clear hno hin hs hf hE
        by_cases c1 : (f k).1 < e.1
        · clear hc
          go_wp2
          refine wp_region_class w [(w.heap.size, extO e), (wr.heap.size, extO (f k))] (by kernel_rfl) (by kernel_rfl) hBn (all2 g1 g2) (fun hne => ?_)
          obtain ⟨d0, d1⟩ := held_ext w (bs := [(w.heap.size, extO e), (wr.heap.size, extO (f k))]) w.heap.size e (by simp)
          obtain ⟨e0, e1⟩ := held_ext w (bs := [(w.heap.size, extO e), (wr.heap.size, extO (f k))]) wr.heap.size (f k) (by simp)
          clear g1 g2 hBn hB
          repeat (go_big_quiet_step (fail))
          refine wpQuiet_nil ?_
          rintro w' ⟨s, rfl⟩
          clear hne d0 d1 e0 e1
          go_wp2
          go_ret
          exact ⟨by rw [HN.out]; rfl, s.below⟩
        · have c2 : e.1 + e.2 < (f k).1 + (f k).2 := by omega
          have hd : decide ((f k).1 < e.1) = false := by simp; omega
          clear hc
          go_wp2
          refine wp_region_class w [(w.heap.size, extO e), (wr.heap.size, extO (f k))] (by kernel_rfl) (by kernel_rfl) hBn (all2 g1 g2) (fun hne => ?_)
          obtain ⟨d0, d1⟩ := held_ext w (bs := [(w.heap.size, extO e), (wr.heap.size, extO (f k))]) w.heap.size e (by simp)
          obtain ⟨e0, e1⟩ := held_ext w (bs := [(w.heap.size, extO e), (wr.heap.size, extO (f k))]) wr.heap.size (f k) (by simp)
          clear g1 g2 hBn hB
          repeat (go_big_quiet_step ((go_at_call 31; exact HeldW.call (end_gives2 _ _ (by omega) (by omega) (by omega) _))))
          refine wpQuiet_nil ?_
          rintro w' ⟨s, rfl⟩
          clear hne d0 d1 e0 e1
          go_wp2
          go_ret
          exact ⟨by rw [HN.out]; rfl, s.below⟩
    · obtain rfl : k = n := by omega
      have hbb := Lib.hid hB
      clear hs hf hE hB
      go_wp2
      go_ret
      exact ⟨by rw [insB_yes hin]; rfl, hbb.out⟩

/-- Contains, at one extent in a block of its own. -/
theorem contains1_gives (e x : Int × Int) (he : okE e = true) (hx : okE x = true) (hin : insE e x) (b : Nat) (w : World) (hW : w.heap[b]? = some (extO x)) :
    Calls Try.prog 27 #[extV e, .slice (some ⟨b, 0, none⟩) 1 1] w (Gives (.bool true) w) := by
  have h := contains_gives e (some ⟨b, 0, none⟩) 1 1 (fun _ => x) he (by omega) w (fun _ => ⟨b, 0, rfl, fun i hi => by obtain rfl : i = 0 := (by omega); exact ⟨(ext_cells hW).1, (ext_cells hW).2.1⟩⟩) (fun _ _ => hx)
  rwa [insB_yes (fun _ _ => hin)] at h

theorem contains1_bool (e x : Int × Int) (he : okE e = true) (hx : okE x = true) (b : Nat) (w : World) (hW : w.heap[b]? = some (extO x)) :
    Calls Try.prog 27 #[extV e, .slice (some ⟨b, 0, none⟩) 1 1] w (Gives (.bool (decide (insE e x))) w) := by
  have h := contains_gives e (some ⟨b, 0, none⟩) 1 1 (fun _ => x) he (by omega) w (fun _ => ⟨b, 0, rfl, fun i hi => by obtain rfl : i = 0 := (by omega); exact ⟨(ext_cells hW).1, (ext_cells hW).2.1⟩⟩) (fun _ _ => hx)
  by_cases hin : insE e x
  · rw [insB_yes (fun _ _ => hin)] at h
    rwa [decide_eq_true hin]
  · rw [insB_no (k := 0) (by omega) hin] at h
    rwa [decide_eq_false hin]
theorem insB_succ (e : Int × Int) (k : Nat) (f : Nat → Int × Int) : insB e (k + 1) f = (insB e k f && decide (insE e (f k))) := by
  by_cases hin : insE e (f k)
  · by_cases h : ∀ i, i < k → insE e (f i)
    · rw [insB_yes h, insB_yes (ins_succ h hin), decide_eq_true hin]; rfl
    · have : insB e k f = false := by unfold insB; simp only [decide_eq_false_iff_not]; exact h
      rw [this, Bool.false_and]
      unfold insB; simp only [decide_eq_false_iff_not]; exact fun h' => h fun i hi => h' i (by omega)
  · rw [insB_no (k := k) (by omega) hin, decide_eq_false hin, Bool.and_false]

/-- Contains, at two extents in one block. -/
theorem contains2_gives (e x y : Int × Int) (he : okE e = true) (hx : okE x = true) (hy : okE y = true) (hix : insE e x) (hiy : insE e y) (b : Nat) (w : World) (hW : w.heap[b]? = some (.cells #[.int .i64 x.1, .int .i64 x.2, .int .i64 y.1, .int .i64 y.2] 30 (0, 0))) :
    Calls Try.prog 27 #[extV e, .slice (some ⟨b, 0, none⟩) 2 2] w (Gives (.bool true) w) := by
  have h := contains_gives e (some ⟨b, 0, none⟩) 2 2 (fun i => if i = 0 then x else y) he (by omega) w (fun _ => ⟨b, 0, rfl, fun i hi => by
    rw [cell_of hW, cell_of hW]
    match i, hi with
    | 0, _ => exact ⟨rfl, rfl⟩
    | 1, _ => exact ⟨rfl, rfl⟩⟩) (fun i _ => by (split; exact hx; exact hy))
  rwa [insB_yes (fun i _ => by (split; exact hix; exact hiy))] at h
end Go.Proofs.Ytfomidjhmdmmcaa

/- A slice of extents that came in, opened. -/
namespace Go.Proofs.Ytfomidjhmdmmcaa
open Go.ChangeShapes Go.WideShapes Go.RowKit Go.Deep

theorem open_exts {H : Type} {enc : TypeId × Value → H} {P : Program} {w : World} {base : Nat} {held : Bool} {t e : TypeId} {f0 f1 : Field} {a : Option Addr} {len cap : Nat} {d : DataW H} {p : List MemPlace}
    (ht : P.underlying t = some (.slice e)) (he : P.underlying e = some (.struct #[f0, f1])) (ho : f0.offset = 0 ∧ f1.offset = 1 ∧ P.cellsOf f0.type = 1 ∧ P.cellsOf f1.type = 1 ∧ P.cellsOf e = 2) (h0 : P.underlying f0.type = some (.int .i64)) (h1 : P.underlying f1.type = some (.int .i64))
    (h : DataW.Trod enc P w base (fun _ => true) held t (.slice a len cap) d p) :
    ∃ f : Nat → Int × Int, len ≤ maxLen ∧ ExtSlice w a len f ∧ ∀ i, i < len → I64 (f i).1 ∧ I64 (f i).2 := by
  obtain ⟨o0, o1, c0, c1, ce⟩ := ho
  obtain ⟨fuel, hf⟩ := h
  rcases open_slice ht hf with ⟨hcs, _⟩ | ⟨ad, len', cap', m, n, D, Pl, hcs, _, hl, hm, hmm, _, hi⟩
  · simp [Value.cells] at hcs
    obtain ⟨rfl, rfl, rfl⟩ := hcs
    exact ⟨fun _ => (0, 0), Nat.zero_le _, fun h => absurd h (by omega), fun i hi => absurd hi (by omega)⟩
  · simp [Value.cells] at hcs
    obtain ⟨rfl, rfl, rfl⟩ := hcs
    simp at hmm
    subst hmm
    have hex : ∀ i, i < len → ∃ x : Int × Int, (w.cell? (ad.add (i * 2)) = some (.int .i64 x.1) ∧ w.cell? (ad.add (i * 2 + 1)) = some (.int .i64 x.2)) ∧ I64 x.1 ∧ I64 x.2 := fun i hlt => by
      obtain ⟨cs', h1', h2⟩ := hi i (by omega)
      rw [ce] at h1'
      obtain ⟨_, hlen, hat⟩ := World.cells?_some h1'
      obtain ⟨y0, y1, n', _, _, t0, t1⟩ := trod_struct2 he h2
      rw [o0, c0] at t0
      rw [o1, c1] at t1
      match cs', hlen with
      | [u0, u1], _ =>
        obtain ⟨b0, e0, _, w0⟩ := DataW.trod_int h0 t0
        obtain ⟨b1, e1, _, w1⟩ := DataW.trod_int h1 t1
        simp at e0 e1
        subst e0 e1
        have a0 := hat 0 (by omega)
        have a1 := hat 1 (by omega)
        rw [add_add] at a0 a1
        exact ⟨(b0, b1), ⟨by simpa using a0, by simpa using a1⟩, bounds_i64 w0, bounds_i64 w1⟩
    obtain ⟨f, hf'⟩ := choose_lt (α := Int × Int) (p := fun i x => (w.cell? (ad.add (i * 2)) = some (.int .i64 x.1) ∧ w.cell? (ad.add (i * 2 + 1)) = some (.int .i64 x.2)) ∧ I64 x.1 ∧ I64 x.2) hex
    refine ⟨f, by omega, fun hn => ?_, fun i hi => (hf' i hi).2⟩
    obtain ⟨b, o, s⟩ := ad
    have hsp : s = none := by simpa [Addr.add] using World.cell?_spot (hf' 0 hn).1.1
    subst hsp
    refine ⟨b, o, rfl, fun i hi => ?_⟩
    have e : ∀ j, (⟨b, o, none⟩ : Addr).add j = ⟨b, o + j, none⟩ := fun j => by simp [Addr.add]
    have hx := (hf' i hi).1
    rw [e, e] at hx
    exact ⟨hx.1, hx.2⟩
end Go.Proofs.Ytfomidjhmdmmcaa

/- Plain mathematics for package extent, of two extents. No Go text. -/
namespace Go.Proofs.Ytfomidjhmdmmcaa.Plain01

/-- The extent of the bytes that two extents have. -/
def ovl (a b : Int × Int) : Int × Int := if min (a.1 + a.2) (b.1 + b.2) ≤ max a.1 b.1 then (0, 0) else (max a.1 b.1, min (a.1 + a.2) (b.1 + b.2) - max a.1 b.1)
def ovlB (a b : Int × Int) : Bool := decide (max a.1 b.1 < min (a.1 + a.2) (b.1 + b.2))
theorem ovl_no {a b : Int × Int} (h : min (a.1 + a.2) (b.1 + b.2) ≤ max a.1 b.1) : ovl a b = (0, 0) ∧ ovlB a b = false := by
  unfold ovl ovlB; rw [if_pos h]; simp; omega
theorem ovl_yes {a b : Int × Int} {lo hi : Int} (hlo : max a.1 b.1 = lo) (hhi : min (a.1 + a.2) (b.1 + b.2) = hi) (h : lo < hi) : ovl a b = (lo, hi - lo) ∧ ovlB a b = true := by
  subst hlo; subst hhi
  unfold ovl ovlB; rw [if_neg (by omega)]; simp; omega

/-- The extent from the smaller beginning to the greater end. -/
def jn (a b : Int × Int) : Int × Int := (min a.1 b.1, max (a.1 + a.2) (b.1 + b.2) - min a.1 b.1)
theorem jn_eq {a b : Int × Int} {lo hi : Int} (hlo : min a.1 b.1 = lo) (hhi : max (a.1 + a.2) (b.1 + b.2) = hi) : jn a b = (lo, hi - lo) := by subst hlo; subst hhi; rfl

end Go.Proofs.Ytfomidjhmdmmcaa.Plain01

/- Overlap of package extent and of its reference: the same extent at every two valid extents. -/
namespace Go.Proofs.Ytfomidjhmdmmcaa
open Go.RowKit Go.Shelf Go.Proofs.Ytfomidjhmdmmcaa.Plain01

/-- Three new blocks. -/
theorem three_ext (w : World) (o0 o1 o2 : Obj) : (((w.alloc o0).alloc o1).alloc o2).heap[w.heap.size]? = some o0 ∧ (((w.alloc o0).alloc o1).alloc o2).heap[w.heap.size + 1]? = some o1 ∧ (((w.alloc o0).alloc o1).alloc o2).heap[w.heap.size + 1 + 1]? = some o2 ∧ Below w.heap.size w (((w.alloc o0).alloc o1).alloc o2) :=
  ⟨heap_old (heap_old (heap_new w o0 rfl) _) _, heap_old (heap_new _ o1 (by simp)) _, heap_new _ o2 (by simp), (((Below.refl _ w).alloc (Nat.le_refl _) _).alloc (by simp) _).alloc (by simp; omega) _⟩

/-- The blocks of a function of two extents: the two boxed arguments, the result. -/
abbrev args2 (w : World) (a b : Int × Int) : List (Nat × Obj) := [(w.heap.size, extO a), (w.heap.size + 1, extO b), (w.heap.size + 1 + 1, extO (0, 0))]

set_option maxRecDepth 100000 in
set_option maxHeartbeats 8000000 in
theorem overlap_no (a b : Int × Int) (ha : okE a = true) (hb : okE b = true) (c3 : min (a.1 + a.2) (b.1 + b.2) ≤ max a.1 b.1) (w : World) : Calls Try.prog 46 #[extV a, extV b] w (Gives (.tuple #[extV (ovl a b), .bool (ovlB a b)]) w) := by
  obtain ⟨a0, a1, a2⟩ := okE_iff.1 ha
  obtain ⟨b0, b1, b2⟩ := okE_iff.1 hb
  clear ha hb
  obtain ⟨h1, h2, h3, hb⟩ := three_ext w (extO a) (extO b) (extO (0, 0))
  by_cases c1 : a.1 < b.1 <;> by_cases c2 : b.1 + b.2 < a.1 + a.2
  all_goals
    go_enter Try.func46, Try.ntmps46
    go_wp2
    refine wp_region_class w (args2 w a b) (by kernel_rfl) (by kernel_rfl) hb (all3 h1 h2 h3) (fun hne => ?_)
    obtain ⟨d0, d1⟩ := held_ext w (bs := args2 w a b) w.heap.size a (by simp)
    obtain ⟨e0, e1⟩ := held_ext w (bs := args2 w a b) (w.heap.size + 1) b (by simp)
    clear h1 h2 h3 hb
    repeat (go_big_quiet_step ((go_at_call 31; exact HeldW.call (end_gives2 _ _ (by omega) (by omega) (by omega) _))))
    refine wpQuiet_nil ?_
    rintro w' ⟨s, rfl⟩
    obtain ⟨r0, r1, rf⟩ := held_ext1 s (w.heap.size + 1 + 1) (0, 0) (by simp)
    clear hne d0 d1 e0 e1
    go_wp2
    refine bodyPost_ret (v := .tuple #[.agg #[.int .i64 0, .int .i64 0], .bool false]) (by simp [results, Try.results46, go_sem, r0, r1]) rfl ⟨by rw [(ovl_no c3).1, (ovl_no c3).2], ?_⟩
    exact (s.below.setCell (p := ⟨w.heap.size + 1 + 1, 0, none⟩) (by simp; omega) _).setCell (p := ⟨w.heap.size + 1 + 1, 1, none⟩) (by simp; omega) _

set_option maxRecDepth 100000 in
set_option maxHeartbeats 8000000 in
theorem overlap_yes (a b : Int × Int) (ha : okE a = true) (hb : okE b = true) (c3 : max a.1 b.1 < min (a.1 + a.2) (b.1 + b.2)) (w : World) : Calls Try.prog 46 #[extV a, extV b] w (Gives (.tuple #[extV (ovl a b), .bool (ovlB a b)]) w) := by
  obtain ⟨a0, a1, a2⟩ := okE_iff.1 ha
  obtain ⟨b0, b1, b2⟩ := okE_iff.1 hb
  clear ha hb
  obtain ⟨h1, h2, h3, hb⟩ := three_ext w (extO a) (extO b) (extO (0, 0))
  by_cases c1 : a.1 < b.1 <;> by_cases c2 : b.1 + b.2 < a.1 + a.2
  all_goals
    go_enter Try.func46, Try.ntmps46
    go_wp2
    refine wp_region_class w (args2 w a b) (by kernel_rfl) (by kernel_rfl) hb (all3 h1 h2 h3) (fun hne => ?_)
    obtain ⟨d0, d1⟩ := held_ext w (bs := args2 w a b) w.heap.size a (by simp)
    obtain ⟨e0, e1⟩ := held_ext w (bs := args2 w a b) (w.heap.size + 1) b (by simp)
    clear h1 h2 h3 hb
    repeat (go_big_quiet_step ((go_at_call 31; exact HeldW.call (end_gives2 _ _ (by omega) (by omega) (by omega) _))))
    refine wpQuiet_nil ?_
    rintro w' ⟨s, rfl⟩
    obtain ⟨r0, r1, rf⟩ := held_ext1 s (w.heap.size + 1 + 1) (0, 0) (by simp)
    clear hne d0 d1 e0 e1
    go_wp2_with ((go_at_call 50; refine (between_gives _ _ (by omega) (by omega) (by omega) _).mono ?_; rintro e w2 ⟨rfl, hb2⟩; have hbw := s.below.trans (hb2.mono s.below.size); obtain ⟨r0, r1, rf⟩ := ext_cells (heap_below (s.blocks (w.heap.size + 1 + 1, extO (0, 0)) (by simp)) hb2)))
    first
      | (have hv := ovl_yes (a := a) (b := b) (lo := b.1) (hi := b.1 + b.2) (by omega) (by omega) (by omega))
      | (have hv := ovl_yes (a := a) (b := b) (lo := b.1) (hi := a.1 + a.2) (by omega) (by omega) (by omega))
      | (have hv := ovl_yes (a := a) (b := b) (lo := a.1) (hi := b.1 + b.2) (by omega) (by omega) (by omega))
      | (have hv := ovl_yes (a := a) (b := b) (lo := a.1) (hi := a.1 + a.2) (by omega) (by omega) (by omega))
    obtain ⟨hv1, hv2⟩ := hv
    rw [hv1, hv2]
    clear hv1 hv2
    refine bodyPost_ret (v := .tuple #[.agg #[.int .i64 _, .int .i64 _], .bool true]) (by simp [results, Try.results46, go_sem, r0, r1]) rfl ⟨rfl, ?_⟩
    exact (hbw.setCell (p := ⟨w.heap.size + 1 + 1, 0, none⟩) (by simp; omega) _).setCell (p := ⟨w.heap.size + 1 + 1, 1, none⟩) (by simp; omega) _

theorem overlap_gives (a b : Int × Int) (ha : okE a = true) (hb : okE b = true) (w : World) : Calls Try.prog 46 #[extV a, extV b] w (Gives (.tuple #[extV (ovl a b), .bool (ovlB a b)]) w) := by
  by_cases h : min (a.1 + a.2) (b.1 + b.2) ≤ max a.1 b.1
  · exact overlap_no a b ha hb h w
  · exact overlap_yes a b ha hb (by omega) w

set_option maxRecDepth 100000 in
set_option maxHeartbeats 4000000 in
theorem roverlap_gives (a b : Int × Int) (ha : okE a = true) (hb : okE b = true) (w : World) : Calls Try.prog 32 #[extV a, extV b] w (Gives (extV (ovl a b)) w) := by
  obtain ⟨a0, a1, a2⟩ := okE_iff.1 ha
  obtain ⟨b0, b1, b2⟩ := okE_iff.1 hb
  clear ha hb
  by_cases c3 : min (a.1 + a.2) (b.1 + b.2) ≤ max a.1 b.1 <;> by_cases c1 : a.1 < b.1 <;> by_cases c2 : b.1 + b.2 < a.1 + a.2
  all_goals
    go_enter Try.func32, Try.ntmps32
    go_wp2
    first
      | (have hv := (ovl_no c3).1)
      | (have hv := (ovl_yes (a := a) (b := b) (lo := b.1) (hi := b.1 + b.2) (by omega) (by omega) (by omega)).1)
      | (have hv := (ovl_yes (a := a) (b := b) (lo := b.1) (hi := a.1 + a.2) (by omega) (by omega) (by omega)).1)
      | (have hv := (ovl_yes (a := a) (b := b) (lo := a.1) (hi := b.1 + b.2) (by omega) (by omega) (by omega)).1)
      | (have hv := (ovl_yes (a := a) (b := b) (lo := a.1) (hi := a.1 + a.2) (by omega) (by omega) (by omega)).1)
    rw [hv]
    clear hv
    refine bodyPost_ret (v := .agg #[.int .i64 _, .int .i64 _]) (by simp [results, Try.results32, go_sem]) rfl ⟨rfl, ?_⟩
    exact (((Below.refl _ w).alloc (Nat.le_refl _) _).alloc (by simp) _).alloc (by simp; omega) _
end Go.Proofs.Ytfomidjhmdmmcaa
