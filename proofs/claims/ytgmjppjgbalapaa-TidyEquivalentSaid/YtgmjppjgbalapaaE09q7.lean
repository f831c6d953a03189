import Derived.BigQuiet
import Derived.Test.YtgmjppjgbalapaaE09q6
import Derived.Test.YtgmjppjgbalapaaE09q5
import Derived.RangeFuncBox
import Derived.RangeFuncLeaves
import Derived.RangeFuncNested
import Derived.Shelf.Abstract
import Derived.WalkKit
import Derived.OwnWalk
import Derived.OwnWalkIn
import Derived.TacticsInMore
import Derived.LoopNIn
import Derived.LoopIn
import Derived.Maps.AppendAt
import Derived.Lib.Hide
import Derived.Test.YtgmjppjgbalapaaE09q2
import Derived.Test.YtgmjppjgbalapaaProg
import Derived.Deep.DeepMust
import Derived.Test.YtgmjppjgbalapaaE09q4
import Derived.LoopTactic
/- The order of commands by their targets: cmp.Compare, the closure of order, order. -/
namespace Go.Proofs.Ytgmjppjgbalapaa
open Go.RowKit Go.Sort
set_option linter.unusedVariables false
set_option linter.unusedSimpArgs false

theorem isnan_any (x : Int) (w : World) : Calls Try.prog 83 #[.int .i64 x] w fun e w' => e = .returned (.bool false) ∧ w' = w := by
  go_enter Try.func83, Try.ntmps83
  go_wp2
  go_ret
  exact ⟨by simp, rfl⟩
theorem compare_any (x y : Int) (w : World) : Calls Try.prog 72 #[.int .i64 x, .int .i64 y] w fun e w' => e = .returned (.int .i64 (cmpI x y)) ∧ w' = w := by
  have h1 := isnan_any x w
  have h2 := isnan_any y w
  unfold cmpI
  by_cases c1 : x < y
  · rw [if_pos c1]
    go_enter Try.func72, Try.ntmps72
    go_wp2_with fail
    refine h1.mono ?_
    rintro e _ ⟨rfl, rfl⟩
    go_wp2_with fail
    refine h2.mono ?_
    rintro e _ ⟨rfl, rfl⟩
    go_wp2
    go_ret
    exact ⟨rfl, rfl⟩
  · rw [if_neg c1]
    by_cases c2 : y < x
    · rw [if_pos c2]
      go_enter Try.func72, Try.ntmps72
      go_wp2_with fail
      refine h1.mono ?_
      rintro e _ ⟨rfl, rfl⟩
      go_wp2_with fail
      refine h2.mono ?_
      rintro e _ ⟨rfl, rfl⟩
      go_wp2
      go_ret
      exact ⟨rfl, rfl⟩
    · rw [if_neg c2]
      go_enter Try.func72, Try.ntmps72
      go_wp2_with fail
      refine h1.mono ?_
      rintro e _ ⟨rfl, rfl⟩
      go_wp2_with fail
      refine h2.mono ?_
      rintro e _ ⟨rfl, rfl⟩
      go_wp2
      go_ret
      exact ⟨rfl, rfl⟩

theorem CmdsIn.W {w : World} {ca : Option Addr} {cs : List Cmd} {ccap : Nat} (h : CmdsIn w ca cs ccap) {bs : List (Nat × Obj)} (s : HeldW w bs) : CmdsIn s.w ca cs ccap := h.below s.below
/-- A boxed slice of commands; what it holds, in every world of a class. -/
abbrev boxL (ca : Option Addr) (L ccap : Nat) : Obj := .cells #[.slice ca L ccap] 22 (0, 0)
def keyT (cs : List Cmd) (z : Int) : Int := ((cs[z.toNat]?).map Cmd.t).getD 0
theorem keyT_at {cs : List Cmd} {i : Nat} {c : Cmd} (h : cs[i]? = some c) : keyT cs i = c.t := by simp [keyT, h]

set_option maxRecDepth 100000 in
set_option maxHeartbeats 4000000 in
theorem orderC_any (B : Nat) (ca : Option Addr) (cs : List Cmd) (ccap i j : Nat) (w : World) (hB : w.heap[B]? = some (boxL ca cs.length ccap)) (h : CmdsIn w ca cs ccap) (hi : i < cs.length) (hj : j < cs.length) :
    Calls Try.prog 71 #[.int .i64 i, .int .i64 j, .pointer (some ⟨B, 0, none⟩)] w (Gives (.int .i64 (cmpI (keyT cs i) (keyT cs j))) w) := by
  obtain ⟨ci, hci⟩ : ∃ c, cs[i]? = some c := ⟨_, List.getElem?_eq_getElem hi⟩
  obtain ⟨cj, hcj⟩ : ∃ c, cs[j]? = some c := ⟨_, List.getElem?_eq_getElem hj⟩
  rw [keyT_at hci, keyT_at hcj]
  obtain ⟨b, o, rfl, _⟩ := h.at hci
  have hbl : ∀ p ∈ [(B, boxL (some ⟨b, o, none⟩) cs.length ccap)], w.heap[p.1]? = some p.2 := by simpa using hB
  have c0 : ∀ s : HeldW w [(B, boxL (some ⟨b, o, none⟩) cs.length ccap)], s.w.cell? ⟨B, 0, none⟩ = some (.slice (some ⟨b, o, none⟩) cs.length ccap) := fun s => by rw [cell_of (s.blocks _ List.mem_cons_self)]; rfl
  have c1 : ∀ s : HeldW w [(B, boxL (some ⟨b, o, none⟩) cs.length ccap)], s.w.cell? ⟨b, o + i * 5 + 1, none⟩ = some (.int .i64 ci.t) := fun s => by
    obtain ⟨b', o', e, _, h1, _⟩ := (h.W s).at hci
    simp only [Option.some.injEq, Addr.mk.injEq] at e
    obtain ⟨rfl, rfl, _⟩ := e
    exact h1
  have c2 : ∀ s : HeldW w [(B, boxL (some ⟨b, o, none⟩) cs.length ccap)], s.w.cell? ⟨b, o + j * 5 + 1, none⟩ = some (.int .i64 cj.t) := fun s => by
    obtain ⟨b', o', e, _, h1, _⟩ := (h.W s).at hcj
    simp only [Option.some.injEq, Addr.mk.injEq] at e
    obtain ⟨rfl, rfl, _⟩ := e
    exact h1
  have hlen := h.len
  have hcap := h.capb
  have hcmp := fun s : HeldW w [(B, boxL (some ⟨b, o, none⟩) cs.length ccap)] => gives_same (compare_any ci.t cj.t s.w)
  clear h hB hci hcj
  generalize cs.length = L at *
  go_enter Try.func71, Try.ntmps71
  go_wp2_with fail
  refine wp_region_class w _ (by kernel_rfl) (by kernel_rfl) (Below.refl _ _) hbl (fun hne => ?_)
  repeat (go_big_quiet_step ((go_at_call 72; exact HeldW.call (hcmp _))))
  refine wpQuiet_nil ?_
  rintro _ ⟨s2, rfl⟩
  go_wp2
  go_ret
  exact ⟨rfl, s2.below⟩

theorem made_zeroI (k : Nat) : madeCells (Value.int .i64 0).cells (k * 1) = (Array.replicate k (0 : Int)).map (Value.int .i64) := by
  apply Array.ext_getElem?
  intro i
  unfold madeCells
  rw [Nat.mul_one]
  by_cases h : i < k
  · simp [h, Value.cells, Nat.mod_one]
  · simp [h]
theorem make_ints (k : Nat) (hk : k ≤ 1000000) (w : World) : (Instr.makeSlice 41 (.int .i64 (k : Int)) (.int .i64 (k : Int))).run Try.prog w = .ok (.slice (some ⟨w.heap.size, 0, none⟩) k k) (w.alloc (rowI (Array.replicate k 0))) := by
  have hi : ∃ i, Try.prog.info? 3 = some i ∧ i.zero = some (.int .i64 0) ∧ i.size = 1 ∧ i.bytes = 8 := by
    have h : (Try.prog.info? 3).map (fun i => (i.zero, i.size, i.bytes)) = some (some (.int .i64 0), 1, 8) := by kernel_rfl
    obtain ⟨i, hi, he⟩ := Option.map_eq_some_iff.1 h
    simp only [Prod.mk.injEq] at he
    exact ⟨i, hi, he.1, he.2.1, he.2.2⟩
  obtain ⟨i, hi, hz, hs, hb⟩ := hi
  rw [run_make w 41 3 i _ Try.underlying41 hi hz .i64 .i64 k k (by omega) (by omega) (by rw [hb]; omega) (by omega)]
  rw [hs, Int.toNat_natCast, made_zeroI]

/-- The indices of commands in ascending order of their targets. -/
structure IsOrder (cs : List Cmd) (idx : Array Int) : Prop where
  size : idx.size = cs.length
  perm : idx.toList.Perm ((List.range cs.length).map (fun i : Nat => (i : Int)))
  asc : AscIn (keyT cs) 0 cs.length idx
def OrderPost (cs : List Cmd) (w : World) (e : Ending) (w' : World) : Prop :=
  ∃ (g : Nat) (idx : Array Int), e = .returned (.slice (some ⟨g, 0, none⟩) cs.length cs.length) ∧ w.heap.size ≤ g ∧ w'.heap[g]? = some (rowI idx) ∧ Below w.heap.size w w' ∧ IsOrder cs idx

/-- A filled row. -/
theorem filled {L : Nat} {dk : Array Int} (hs : dk.size = L) (h : ∀ i, i < L → dk[i]! = (i : Int)) : dk.toList = (List.range L).map (fun i : Nat => (i : Int)) := by
  apply List.ext_getElem
  · simp [hs]
  · intro i h1 h2
    have hi : i < dk.size := by simpa using h1
    have := h i (by omega)
    rw [getElem!_pos dk i hi] at this
    simpa using this
theorem permIn_whole {L : Nat} {d d' : Array Int} (h : PermIn 0 L d d') (hs : d.size = L) : d'.toList.Perm d.toList := by
  have h2 := h.2.2
  have e1 : d'.extract 0 L = d' := by rw [← hs, ← h.1]; simp
  have e2 : d.extract 0 L = d := by rw [← hs]; simp
  rwa [e1, e2] at h2

set_option maxRecDepth 100000 in
set_option maxHeartbeats 4000000 in
theorem order_any (ca : Option Addr) (cs : List Cmd) (ccap : Nat) (w : World) (h : CmdsIn w ca cs ccap) (hL : cs.length ≤ 1000000) : Calls Try.prog 57 #[.slice ca cs.length ccap] w (OrderPost cs w) := by
  have hpost : Hid (∀ e w', (∃ (g : Nat) (idx : Array Int), e = .returned (.slice (some ⟨g, 0, none⟩) cs.length cs.length) ∧ w.heap.size ≤ g ∧ w'.heap[g]? = some (rowI idx) ∧ Below w.heap.size w w' ∧ IsOrder cs idx) → OrderPost cs w e w') := Lib.hid fun _ _ h => h
  have HC := Lib.hid h
  obtain ⟨L, hLe⟩ : ∃ L, L = cs.length := ⟨_, rfl⟩
  have HL := Lib.hid hLe
  have hmk := fun w => make_ints L (by omega) w
  rw [← hLe] at hL hpost ⊢
  clear h hLe
  go_enter Try.func57, Try.ntmps57
  go_wp2
  obtain ⟨s, hs⟩ : ∃ s : HeldW w [(w.heap.size + 1, rowI (Array.replicate L 0)), (w.heap.size, boxL ca L ccap)], (w.alloc (boxL ca L ccap)).alloc (rowI (Array.replicate L 0)) = s.w := start2 w _ _
  rw [hs]
  clear hs hmk
  go_loopw [10] (fun v wr => ∃ k : Nat, k ≤ L ∧ v = .int .i64 k ∧ ∃ dk : Array Int, dk.size = L ∧ Hid (∀ i, i < k → dk[i]! = (i : Int)) ∧ ∃ s : HeldW w [(w.heap.size + 1, rowI dk), (w.heap.size, boxL ca L ccap)], wr = s.w) (fun v _ => L - (intOf v).toNat)
  case atStart => exact ⟨0, by omega, rfl, _, by simp, Lib.hid (fun i hi => by omega), s, rfl⟩
  case round =>
    clear s
    obtain ⟨k, hk, rfl, dk, hsz, hf, s, rfl⟩ := hrel
    by_cases hlt : k < L
    · obtain ⟨u, c1⟩ : ∃ u, s.w.cell? ⟨w.heap.size + 1, k, none⟩ = some u := ⟨.int .i64 dk[k]!, by rw [cell_of (s.blocks (w.heap.size + 1, rowI dk) List.mem_cons_self)]; simp [getElem!_pos dk k (by omega), show k < dk.size by omega]⟩
      have f1 : s.w.frozen? ⟨w.heap.size + 1, k, none⟩ = false := free_of (s.blocks (w.heap.size + 1, rowI dk) List.mem_cons_self) k
      have hstep : Hid (∀ i, i < k + 1 → (dk.setIfInBounds k (k : Int))[i]! = (i : Int)) := Lib.hid fun i hi => by
        rw [getElem!_pos _ i (by simp; omega), Array.getElem_setIfInBounds (by omega)]
        by_cases e : k = i
        · subst e; simp
        · rw [if_neg e]
          have := hf.out i (by omega)
          rwa [getElem!_pos dk i (by omega)] at this
      have hsz2 : (dk.setIfInBounds k (k : Int)).size = L := by simp [hsz]
      have HS : Hid (∃ s' : HeldW w [(w.heap.size + 1, rowI (dk.setIfInBounds k (k : Int))), (w.heap.size, boxL ca L ccap)], s.w.setCell ⟨w.heap.size + 1, k, none⟩ (.int .i64 k) = s'.w) := Lib.hid ⟨HeldW.store (i := k) (v := .int .i64 k) s (by omega) (by simp) (by simp), rfl⟩
      go_wp2
      obtain ⟨s', hs'⟩ := HS.out
      rw [hs']
      go_roundw
      case rel => exact ⟨k + 1, by omega, by go_num, _, hsz2, hstep, s', rfl⟩
      case measure => simp [intOf]; omega
    · obtain rfl : k = L := by omega
      have hrow : s.w.heap[w.heap.size + 1]? = some (rowI dk) := s.blocks _ List.mem_cons_self
      have hbox : s.w.heap[w.heap.size]? = some (boxL ca k ccap) := s.blocks (w.heap.size, boxL ca k ccap) (by simp)
      have hE : AllE (fun z => ∃ i : Nat, i < k ∧ z = (i : Int)) dk := fun i hi => ⟨i, by omega, hf.out i (by omega)⟩
      have hcmp : CmpX s.w (w.heap.size + 1) k 71 #[.pointer (some ⟨w.heap.size, 0, none⟩)] (keyT cs) (fun z => ∃ i : Nat, i < k ∧ z = (i : Int)) :=
        ⟨enters_of Try.func71 (by kernel_rfl) rfl, fun d t hd x y ⟨i, hi, hx⟩ ⟨j, hj, hy⟩ => by
          subst hx; subst hy
          have hb : Below w.heap.size w t.w := s.below.trans ((t.but.mono s.below.size).below (by omega))
          refine orderC_any w.heap.size ca cs ccap i j t.w ?_ (HC.out.below hb) (by rw [← HL.out]; exact hi) (by rw [← HL.out]; exact hj)
          rw [← HL.out]
          exact (t.but.block _ (Array.getElem?_eq_some_iff.1 hbox).1 (by omega)).trans hbox⟩
      have hcall := sort_stable_any 71 #[.pointer (some ⟨w.heap.size, 0, none⟩)] (keyT cs) _ (w.heap.size + 1) k k s.w hcmp (by omega) dk (HeldX.start hrow) hsz hE
      have hw : (HeldX.start hrow).w = s.w := rfl
      rw [hw] at hcall
      have HF := Lib.hid (filled hsz hf.out)
      clear hw hcmp hE hf hrow hbox hlt
      go_wp2_with fail
      refine hcall.mono ?_
      rintro e _ ⟨rfl, d', hp, ha, t, rfl⟩
      clear hcall
      have HP := Lib.hid hp
      have HA := Lib.hid ha
      clear hp ha
      go_wp2
      go_ret
      refine hpost.out _ _ ⟨_, d', rfl, by omega, t.blocks _ List.mem_cons_self, s.below.trans ((t.but.mono s.below.size).below (by omega)), ⟨by rw [HP.out.1, hsz, HL.out], ?_, by rw [← HL.out]; exact HA.out⟩⟩
      have := permIn_whole HP.out hsz
      rw [HF.out, HL.out] at this
      exact this
end Go.Proofs.Ytgmjppjgbalapaa

/- The functions count, pieces and Split of package extent: what they return at every valid extent and every size. -/
namespace Go.Proofs.Ytgmjppjgbalapaa
open Go.RowKit Go.Shelf Go.Proofs.Ytgmjppjgbalapaa.Plain01
attribute [local go_sem] Oper.semAt_some

theorem ret_int {k : IntKind} {a b : Int} (h : a = b) : Ending.returned (.int k a) = .returned (.int k b) := by rw [h]

/-- What has come when k rounds are over. -/
def upto {α : Type} (f : Nat → α) (k : Nat) : List α := (List.range k).map f
theorem upto_succ {α : Type} (f : Nat → α) (k : Nat) : upto f (k + 1) = upto f k ++ [f k] := by simp [upto, List.range_succ]
theorem upto_length {α : Type} (f : Nat → α) (k : Nat) : (upto f k).length = k := by simp [upto]

/-- What a round that goes on keeps: the two captured boxes. -/
def KpBoxes (Be Bs : Nat) (A B : World) : Prop := B.heap[Be]? = A.heap[Be]? ∧ B.heap[Bs]? = A.heap[Bs]?

end Go.Proofs.Ytgmjppjgbalapaa

/- Split of package extent: the pieces, in a slice of its own, at every valid extent and every size. -/
namespace Go.Proofs.Ytgmjppjgbalapaa
open Go.RowKit Go.Shelf Go.Proofs.Ytgmjppjgbalapaa.Plain01
attribute [local go_sem] Oper.semAt_some

theorem KpBoxes.trans {Be Bs : Nat} {A B C : World} (h : KpBoxes Be Bs A B) (k : KpBoxes Be Bs B C) : KpBoxes Be Bs A C := ⟨k.1.trans h.1, k.2.trans h.2⟩

/-- The cells of a list of extents. -/
def extCells (l : List (Int × Int)) : List Value := l.flatMap fun x => [.int .i64 x.1, .int .i64 x.2]
theorem extCells_snoc (l : List (Int × Int)) (x : Int × Int) : extCells (l ++ [x]) = extCells l ++ [.int .i64 x.1, .int .i64 x.2] := by simp [extCells]

theorem infoExtent : (Try.prog.info? 52).map (fun i => (i.zero, i.size, i.bytes)) = some (some (.agg #[.int .i64 0, .int .i64 0]), 2, 16) := by kernel_rfl

/-- What Split's caller is told. -/
def SplitPost (off len size : Int) (w : World) (e : Ending) (w' : World) : Prop :=
  ∃ v, e = .returned v ∧ w'.ownsRow w.heap.size 52 2 v (nsp len size) (extCells (upto (piece off len size) (nsp len size))) ∧ Below w.heap.size w w'

/-- The first of two new blocks, behind a growth that writes no row. -/
theorem first_kept {w w1 : World} {o0 o1 : Obj} (h : ((w.alloc o0).alloc o1).grownBy w1 none) : w1.heap[w.heap.size]? = some o0 :=
  (h.block _ (by simp; omega) (by simp)).trans ((Below.heap_alloc _ _ _ (by simp)).trans (World.alloc_heap_new w _))

/-- Three new blocks. -/
theorem three_new (w : World) (o0 : Obj) (o1 o2 : Obj) : (((w.alloc o0).alloc o1).alloc o2).heap.size = w.heap.size + 3 ∧ (((w.alloc o0).alloc o1).alloc o2).heap[w.heap.size + 1]? = some o1 ∧ (((w.alloc o0).alloc o1).alloc o2).heap[w.heap.size + 1 + 1]? = some o2 ∧ Below w.heap.size w (((w.alloc o0).alloc o1).alloc o2) := by
  refine ⟨by simp, ?_, ?_, (((Below.refl _ w).alloc (Nat.le_refl _) _).alloc (by simp) _).alloc (by simp; omega) _⟩
  · refine (Below.heap_alloc _ _ _ (by simp)).trans ?_
    have := World.alloc_heap_new (w.alloc o0) o1
    rwa [World.size_alloc] at this
  · have := World.alloc_heap_new ((w.alloc o0).alloc o1) o2
    rwa [World.size_alloc, World.size_alloc] at this

theorem two_new_cells (W : World) (a b : Value) (t : TypeId) : ∀ (j : Nat) (u : Value), [a, b][j]? = some u → (W.alloc (.cells #[a, b] t)).cell? ((⟨W.heap.size, 0, none⟩ : Addr).add j) = some u := by
  intro j u h
  have e : (⟨W.heap.size, 0, none⟩ : Addr).add j = ⟨W.heap.size, j, none⟩ := by simp [Addr.add]; omega
  rw [e, World.cell?_alloc_mark]
  simpa using h

theorem size_ownFrom {β : Type} (B m : Nat) : OwnFrom B (fun (_ : β) W => m ≤ W.heap.size) := fun _ _ _ _ hs hg _ => Nat.le_trans hs hg.size

theorem KpBoxes.refl (Be Bs : Nat) (A : World) : KpBoxes Be Bs A A := ⟨rfl, rfl⟩
theorem kpBoxes_alloc {Be Bs : Nat} {A : World} (h1 : Be < A.heap.size) (h2 : Bs < A.heap.size) (o : Obj) : KpBoxes Be Bs A (A.alloc o) := ⟨Below.heap_alloc _ _ _ h1, Below.heap_alloc _ _ _ h2⟩
/-- A growth that writes another row, then a store into another block. -/
theorem kpBoxes_grown_set {Be Bs g B : Nat} {A A' : World} (h1 : Be < A.heap.size) (h2 : Bs < A.heap.size) (hg : A.grownBy A' (some g)) (e1 : Be ≠ g) (e2 : Bs ≠ g) (e3 : Be ≠ B) (e4 : Bs ≠ B) (v : Value) : KpBoxes Be Bs A (A'.setCell ⟨B, 0, none⟩ v) :=
  ⟨(Below.heap_setCell _ _ _ _ e3).trans (hg.block _ h1 (by simpa using e1)), (Below.heap_setCell _ _ _ _ e4).trans (hg.block _ h2 (by simpa using e2))⟩

theorem cells_own {β : Type} (B : Nat) (cs : Array Value) (t : TypeId) : Own (fun (_ : β) W => W.heap[B]? = some (.cells cs t (0, 0))) := fun s X Y row hs hg hrow =>
  (hg.block B (Array.getElem?_eq_some_iff.1 hs).1 (fun e => by obtain ⟨o, ho, hc⟩ := hrow B e.symm; rw [hs] at ho; cases ho; cases hc)).trans hs

theorem kpBoxes_put {Be Bs : Nat} {w : World} (h1 : Be < w.heap.size) (h2 : Bs < w.heap.size) (W : World) (l : Nat) (o o' : Obj) (hl : w.heap.size ≤ l) (_ : W.heap[l]? = some o) (_ : o.isCells = false) (_ : o.isWalk = false) : KpBoxes Be Bs W (W.putObj l o') :=
  ⟨World.putObj_heap_other (by omega), World.putObj_heap_other (by omega)⟩

end Go.Proofs.Ytgmjppjgbalapaa

/- The targets of the first commands in ascending order: the iterator. -/
namespace Go.Proofs.Ytgmjppjgbalapaa
open Go.RowKit Go.Shelf Go.Proofs.Ytgmjppjgbalapaa.Plain01
attribute [local go_sem] Oper.semAt_some
set_option linter.unusedVariables false
set_option linter.unusedSimpArgs false

/-- The targets of the commands whose indices are listed and less than m. -/
def tgtAt (cs : List Cmd) (z : Int) : Int × Int := ((cs[z.toNat]?).map Cmd.tgt).getD (0, 0)
def selL (cs : List Cmd) (m : Int) (zs : List Int) : List (Int × Int) := (zs.filter fun z => decide (z < m)).map (tgtAt cs)
theorem tgtAt_at {cs : List Cmd} {i : Nat} {c : Cmd} (h : cs[i]? = some c) : tgtAt cs i = c.tgt := by simp [tgtAt, h]
theorem selL_snoc_in {cs : List Cmd} {m z : Int} {zs : List Int} (h : z < m) : selL cs m (zs ++ [z]) = selL cs m zs ++ [tgtAt cs z] := by simp [selL, h]
theorem selL_snoc_out {cs : List Cmd} {m z : Int} {zs : List Int} (h : ¬ z < m) : selL cs m (zs ++ [z]) = selL cs m zs := by simp [selL, h]
theorem selL_length {cs : List Cmd} {m : Int} {zs : List Int} : (selL cs m zs).length ≤ zs.length := by unfold selL; rw [List.length_map]; exact List.length_filter_le _ _
theorem selL_prefix {cs : List Cmd} {m : Int} {zs zs' : List Int} (h : zs' <+: zs) : selL cs m zs' <+: selL cs m zs := by
  obtain ⟨r, rfl⟩ := h
  exact ⟨selL cs m r, by simp [selL]⟩

/-- What the iterator has caught. -/
structure Caught (w : World) (Bs Bn Bl g : Nat) (idx : Array Int) (cs : List Cmd) (ca : Option Addr) (ccap : Nat) (m : Int) : Prop where
  s : w.heap[Bs]? = some (.cells #[.slice (some ⟨g, 0, none⟩) idx.size idx.size] 41 (0, 0))
  n : w.heap[Bn]? = some (.cells #[.int .i64 m] 3 (0, 0))
  l : w.heap[Bl]? = some (boxL ca cs.length ccap)
  g : w.heap[g]? = some (rowI idx)
  c : CmdsIn w ca cs ccap
  small : idx.size ≤ 1000000
  idx : ∀ i, i < idx.size → ∃ j : Nat, j < cs.length ∧ idx[i]! = (j : Int)
  ok : ∀ c ∈ cs, okE c.tgt = true ∧ (c.k = 1 ∨ c.k = 2)
theorem Caught.below {w w' : World} {Bs Bn Bl g : Nat} {idx : Array Int} {cs : List Cmd} {ca : Option Addr} {ccap : Nat} {m : Int} (h : Caught w Bs Bn Bl g idx cs ca ccap m) (hb : Below w.heap.size w w') : Caught w' Bs Bn Bl g idx cs ca ccap m :=
  ⟨heap_below h.s hb, heap_below h.n hb, heap_below h.l hb, heap_below h.g hb, h.c.below hb, h.small, h.idx, h.ok⟩
theorem below_grown0 {w w' : World} (h : Below w.heap.size w w') : w.grownBy w' none := ⟨h.os, h.tape, h.output, h.size, fun k hk _ => h.block k hk⟩

/-- An extent that is valid. -/
abbrev OExt : Type := { x : Int × Int // okE x = true }

theorem take_snoc {α : Type} [Inhabited α] {d : Array α} {k : Nat} (hk : k < d.size) : d.toList.take (k + 1) = d.toList.take k ++ [d[k]!] := by
  rw [List.take_add_one, getElem!_pos d k hk]
  congr 1
  simp [hk]

set_option maxRecDepth 100000 in
set_option maxHeartbeats 2000000 in
theorem targetsC_stops (n : Nat) (hn : 1 ≤ n) (Bs Bn Bl g : Nat) (idx : Array Int) (cs : List Cmd) (ca : Option Addr) (ccap : Nat) (m : Int) (w : World) (hC : Caught w Bs Bn Bl g idx cs ca ccap m) :
    SeqStopsK Fence.wide n Try.prog 86 #[.pointer (some ⟨Bs, 0, none⟩), .pointer (some ⟨Bn, 0, none⟩), .pointer (some ⟨Bl, 0, none⟩)] (fun x : OExt => #[extV x.1]) (Below w.heap.size)
      (fun ys => ys.map (·.1) = selL cs m idx.toList) (fun pre => pre.map (·.1) <+: selL cs m idx.toList) idx.size w := fun l J Jx W hW hJ _ hY h0 => by
  have HC := Lib.hid hC
  obtain ⟨N, hN⟩ : ∃ N, N = idx.size := ⟨_, rfl⟩
  obtain ⟨L, hL⟩ : ∃ L, L = cs.length := ⟨_, rfl⟩
  have cS : ∀ X : World, Below w.heap.size w X → X.cell? ⟨Bs, 0, none⟩ = some (.slice (some ⟨g, 0, none⟩) N N) := fun X h => by rw [cell_of (HC.out.below h).s, hN]; rfl
  have cN : ∀ X : World, Below w.heap.size w X → X.cell? ⟨Bn, 0, none⟩ = some (.int .i64 m) := fun X h => by rw [cell_of (HC.out.below h).n]; rfl
  have cL : ∀ X : World, Below w.heap.size w X → X.cell? ⟨Bl, 0, none⟩ = some (.slice ca L ccap) := fun X h => by rw [cell_of (HC.out.below h).l, hL]; rfl
  have cI : ∀ X : World, Below w.heap.size w X → ∀ k, k < N → X.cell? ⟨g, k, none⟩ = some (.int .i64 idx[k]!) := fun X h k hk => by
    rw [cell_of (HC.out.below h).g]
    simp [getElem!_pos idx k (by omega), show k < idx.size by omega]
  have hsm : N ≤ 1000000 := by rw [hN]; exact hC.small
  have hLb : L ≤ 9223372036854775807 := by rw [hL]; exact Nat.le_trans hC.c.len hC.c.capb
  have HN := Lib.hid hN
  have HL := Lib.hid hL
  have s0 := cS W hW
  rw [← hN] at hY
  clear hC hN hL
  refine callsIn_of_wp Try.func86 rfl trivial ?_ rfl
  simp only [Try.ntmps86, List.size_toArray, List.length_cons, List.length_nil, Nat.reduceAdd, Nat.reduceSub, Array.replicate_succ, Array.replicate_zero, List.push_toArray, List.append_toArray, List.nil_append, List.cons_append]
  gi_wp2
  gi_loopw [9] (fun i wr => ∃ k : Nat, k ≤ N ∧ i = .int .i64 k ∧ ∃ pre : List OExt, Hid (pre.map (·.1) = selL cs m (idx.toList.take k)) ∧ J pre wr ∧ Below w.heap.size w wr) (fun i _ => N - (intOf i).toNat)
  case atStart => exact ⟨0, Nat.zero_le _, rfl, [], Lib.hid rfl, h0, hW⟩
  case round =>
    clear s0
    obtain ⟨k, hk, rfl, pre, hp, hJs, hB⟩ := hrel
    by_cases hlt : k < N
    · obtain ⟨j, hj, hz⟩ := HC.out.idx k (by rw [← HN.out]; exact hlt)
      obtain ⟨c, hc⟩ : ∃ c, cs[j]? = some c := ⟨_, List.getElem?_eq_getElem hj⟩
      have i0 := cI wr hB k hlt
      have s1 := cN wr hB
      have s2 := cL wr hB
      rw [hz] at i0
      have hsn := take_snoc (d := idx) (k := k) (by rw [← HN.out]; exact hlt)
      rw [hz] at hsn
      have hlen : pre.length < N := by
        have h1 : pre.length = (pre.map (·.1)).length := by simp
        rw [hp.out] at h1
        have h2 := selL_length (cs := cs) (m := m) (zs := idx.toList.take k)
        have h3 : (idx.toList.take k).length ≤ k := by simp; omega
        omega
      by_cases hjm : (j : Int) < m
      · obtain ⟨b, o, rfl, x0, x1, x2, x3, x4⟩ := (HC.out.c.below hB).at hc
        have hok := HC.out.ok c (List.mem_of_getElem? hc)
        have hT := mtarget_any c.k c.t c.f c.n hok.2 c.a c.l.length c.cap wr
        have hnext : Hid ((pre ++ [(⟨c.tgt, hok.1⟩ : OExt)]).map (·.1) = selL cs m (idx.toList.take (k + 1))) := Lib.hid (by
          rw [hsn, selL_snoc_in hjm, tgtAt_at hc, List.map_append, hp.out]; rfl)
        have hjL : j < L := by rw [HL.out]; exact hj
        have hjm2 : decide ((j : Int) < m) = true := by simpa using hjm
        have HJ := Lib.hid hJ
        have HY := Lib.hid (fun W1 (h1 : J pre W1) => hY pre ⟨c.tgt, hok.1⟩ W1 h1 hlen)
        clear hsn hz hp hY hJ cI hk hc
        gi_wp2_with (refine ⟨trivial, ?_⟩; gi_at_call 54; refine (callsIn_wide.2 hT).mono ?_; rintro e w' ⟨rfl, hb⟩; obtain ⟨fn, tmps, assign, body, hy, hR⟩ := HY.out w' (HJ.out _ _ _ none hJs (below_grown0 hb) (by intro r e; cases e)); dsimp only [extV, Cmd.tgt, Cmd.w] at hy)
        refine hR.mono ?_
        rintro e W3 (⟨rfl, hJ3, hk3⟩ | ⟨rfl, hJx3⟩)
        · gi_wp2
          go_roundw
          case rel => exact ⟨k + 1, by omega, by simp, _, hnext, hJ3, (hB.trans (hb.mono hB.size)).trans hk3⟩
          case measure => simp [intOf]; omega
        · gi_wp2
          refine bodyPost_ret (results_none rfl _ _ _) rfl ?_
          exact ⟨⟨_, rfl⟩, .inr ⟨_, by rw [hnext.out]; exact selL_prefix (List.take_prefix _ _), hJx3⟩⟩
      · have hnext : Hid (pre.map (·.1) = selL cs m (idx.toList.take (k + 1))) := Lib.hid (by rw [hsn, selL_snoc_out hjm, hp.out])
        clear hsn hz hp hY hJ cI hk hc s2
        gi_wp2
        refine ⟨trivial, ?_⟩
        gi_wp2
        refine ⟨fun _ h => (by cases h), ?_⟩
        gi_wp2
        go_roundw
        case rel => exact ⟨k + 1, by omega, by simp, _, hnext, hJs, hB⟩
        case measure => simp [intOf]; omega
    · obtain rfl : k = N := by omega
      gi_wp2
      go_end0
      exact ⟨⟨_, rfl⟩, .inl ⟨pre, by rw [hp.out, HN.out, List.take_of_length_le (by simp)], hJs⟩⟩

/-- Two of the extents, which ascend, have bytes in common; where the walk stands still. -/
def ovL : Int → List (Int × Int) → Bool
  | _, [] => false
  | e, x :: r => if x.1 < e then true else ovL (x.1 + x.2) r
def endL (pre : List (Int × Int)) : Int := (pre.getLast?.map fun x => x.1 + x.2).getD 0
theorem endL_snoc (pre : List (Int × Int)) (x : Int × Int) : endL (pre ++ [x]) = x.1 + x.2 := by simp [endL]
theorem ovL_append : ∀ (pre : List (Int × Int)) (e : Int) (r : List (Int × Int)), ovL e (pre ++ r) = (ovL e pre || ovL ((pre.getLast?.map fun x => x.1 + x.2).getD e) r) := by
  intro pre
  induction pre with
  | nil => intro e r; simp [ovL]
  | cons a pre ih =>
    intro e r
    rw [List.cons_append, ovL, ovL]
    by_cases h : a.1 < e
    · simp [h]
    · rw [if_neg h, if_neg h, ih]
      cases pre with
      | nil => simp
      | cons b pre => simp [List.getLast?_cons_cons, List.getLast?_cons]
theorem ovL_snoc (pre : List (Int × Int)) (x : Int × Int) : ovL 0 (pre ++ [x]) = (ovL 0 pre || decide (x.1 < endL pre)) := by
  rw [ovL_append]
  unfold endL
  congr 1
theorem ovL_prefix {pre l : List (Int × Int)} (h : pre <+: l) (ho : ovL 0 pre = true) : ovL 0 l = true := by
  obtain ⟨r, rfl⟩ := h
  rw [ovL_append, ho]
  rfl

set_option maxRecDepth 100000 in
set_option maxHeartbeats 4000000 in
theorem overlap_at (Bs Bn Bl g : Nat) (idx : Array Int) (cs : List Cmd) (ca : Option Addr) (ccap : Nat) (m : Int) (w : World) (hC : Caught w Bs Bn Bl g idx cs ca ccap m) :
    Calls Try.prog 77 #[.func (.func 86) #[] #[.pointer (some ⟨Bs, 0, none⟩), .pointer (some ⟨Bn, 0, none⟩), .pointer (some ⟨Bl, 0, none⟩)]] w (Gives (.bool (ovL 0 (selL cs m idx.toList))) w) := by
  refine (callsIn_wide (n := 6)).1 ?_
  have hB0 : Below w.heap.size w ((w.alloc (.cells #[.bool false] 4)).alloc (.cells #[.int .i64 0] 3)) := ((Below.refl _ w).alloc (Nat.le_refl _) _).alloc (by simp) _
  obtain ⟨W0, hW0⟩ : ∃ W0, (w.alloc (.cells #[.bool false] 4)).alloc (.cells #[.int .i64 0] 3) = W0 := ⟨_, rfl⟩
  have hst := targetsC_stops 5 (by omega) Bs Bn Bl g idx cs ca ccap m w hC
  have hsz : W0.heap.size = w.heap.size + 2 := by rw [← hW0]; simp
  have bR : Boxed W0 w.heap.size 4 (.bool false) := by rw [← hW0]; exact (Boxed.new w 4 (.bool false)).alloc _
  have bE : Boxed W0 (w.heap.size + 1) 3 (.int .i64 0) := by
    have := Boxed.new (w.alloc (.cells #[.bool false] 4)) 3 (.int .i64 0)
    rw [World.size_alloc] at this
    rw [← hW0]; exact this
  rw [hW0] at hB0
  obtain ⟨res, hres⟩ : ∃ res, res = ovL 0 (selL cs m idx.toList) := ⟨_, rfl⟩
  rw [← hres]
  have HR := Lib.hid hres
  have HW0 := Lib.hid hW0
  clear hC hres hW0
  refine callsIn_of_wp_marks Try.func77 rfl trivial ?_ rfl
  simp only [Try.ntmps77, List.size_toArray, List.length_cons, List.length_nil, Nat.reduceAdd, Nat.reduceSub, Array.replicate_succ, Array.replicate_zero, List.push_toArray, List.append_toArray, List.nil_append, List.cons_append]
  gi_wp2
  rw [HW0.out]
  refine wpIn_rangeFunc_ownH (n := 6) rfl (by omega) (gf := 86) (lb := #[.pointer (some ⟨Bs, 0, none⟩), .pointer (some ⟨Bn, 0, none⟩), .pointer (some ⟨Bl, 0, none⟩)]) rfl trivial (enters_of Try.func86 (by kernel_rfl) rfl)
    hst belowK_t (belowK_b (by omega)) hB0 (fun _ => rfl)
    (fun pre W => (Boxed W w.heap.size 4 (.bool false) ∧ Boxed W (w.heap.size + 1) 3 (.int .i64 (endL (pre.map (·.1)))) ∧ ovL 0 (pre.map (·.1)) = false) ∧ Below w.heap.size w W ∧ w.heap.size + 2 ≤ W.heap.size)
    (fun c pre W => (c = .ret ∧ Boxed W w.heap.size 4 (.bool true) ∧ ovL 0 (pre.map (·.1)) = true) ∧ Below w.heap.size w W)
    (OwnFrom.and (Own.from (fun s A B row hs hg hr => ⟨boxed_own _ _ (fun _ => .bool false) s A B row hs.1 hg hr, boxed_own _ _ (fun pre : List OExt => .int .i64 (endL (pre.map (·.1)))) s A B row hs.2.1 hg hr, hs.2.2⟩) _) (OwnFrom.and (ownFrom_below (Nat.le_refl _) (by omega)) (size_ownFrom _ _)))
    (fun c => OwnFrom.and (Own.from (fun s A B row hs hg hr => ⟨hs.1, boxed_own _ _ (fun _ => .bool true) s A B row hs.2.1 hg hr, hs.2.2⟩) _) (ownFrom_below (Nat.le_refl _) (by omega)))
    ⟨⟨bR, bE, rfl⟩, hB0, by omega⟩
    (fun x a' W => ∃ Bx, w.heap.size + 1 < Bx ∧ W.heap[Bx]? = some (.cells #[.int .i64 x.1.1, .int .i64 x.1.2] 52 (0, 0)) ∧ a' = { tmps := #[.func (.func 86) #[] #[.pointer (some ⟨Bs, 0, none⟩), .pointer (some ⟨Bn, 0, none⟩), .pointer (some ⟨Bl, 0, none⟩)], undef, .pointer (some ⟨w.heap.size, 0, none⟩), .pointer (some ⟨w.heap.size + 1, 0, none⟩), .pointer (some ⟨Bx, 0, none⟩), .func (.func 86) #[] #[.pointer (some ⟨Bs, 0, none⟩), .pointer (some ⟨Bn, 0, none⟩), .pointer (some ⟨Bl, 0, none⟩)], extV x.1, undef, undef, undef, undef, undef, undef], defers := [] })
    (fun x a' _ X Y row hs hg hr => by obtain ⟨Bx, h1, h2, h3⟩ := hs; exact ⟨Bx, h1, cells_own Bx _ _ () X Y row h2 hg (fun r e => (hr r e).2), h3⟩)
    ?assign ?body ?done ?stop
  case assign =>
    rintro l pre x W K ⟨⟨b1, b2, h1⟩, hB, hS3⟩ hK
    gi_wp2
    exact hK _ _ ((KeepsOthers.alloc _ _).from _) ((Below.refl _ W).alloc (by omega) _) ⟨⟨b1.alloc _, b2.alloc _, h1⟩, hB.alloc hB.size _, by simp; omega⟩ ⟨W.heap.size, by omega, World.alloc_heap_new W _, rfl⟩
  case body =>
    rintro l pre x a' W hl ⟨r, hr⟩ ⟨⟨b1, b2, h1⟩, hB, hS3⟩ ⟨Bx, hBx, bX, rfl⟩ hlt
    have hc := b2.cell
    have hf := b2.frozen
    have hcR := b1.cell
    have hfR := b1.frozen
    have x0 : W.cell? ⟨Bx, 0, none⟩ = some (.int .i64 x.1.1) := by simp [World.cell?, bX]
    have x1 : W.cell? ⟨Bx, 1, none⟩ = some (.int .i64 x.1.2) := by simp [World.cell?, bX]
    have hE := end_gives x.1 x.2 W
    have hsn := ovL_snoc (pre.map (·.1)) x.1
    have hen := endL_snoc (pre.map (·.1)) x.1
    have hmap : (pre ++ [x]).map (·.1) = pre.map (·.1) ++ [x.1] := by simp
    rw [← hmap] at hsn hen
    generalize endL (pre.map (·.1)) = e0 at *
    by_cases hx : x.1.1 < e0
    · have hov : Hid (ovL 0 ((pre ++ [x]).map (·.1)) = true) := Lib.hid (by rw [hsn]; simp [hx])
      clear hsn hen hmap hE
      gi_wp2
      exact ⟨(KeepsOthers.setCell _ _ _).from _, ⟨rfl, b1.set _, hov.out⟩, hB.setCell (p := ⟨w.heap.size, 0, none⟩) (Nat.le_refl _) _⟩
    · have hov : Hid (ovL 0 ((pre ++ [x]).map (·.1)) = false) := Lib.hid (by rw [hsn, h1]; simp [hx])
      have hen2 := Lib.hid hen
      clear hsn hen hmap
      gi_wp2_with (refine ⟨trivial, ?_⟩; gi_at_call 63; refine (CallsIn.inRound l (callsIn_wide.2 hE)).mono ?_; rintro e w' ⟨rfl, hb⟩; have hc2 := (show Boxed w' _ _ _ from heap_below b2 hb).cell; have hf2 := (show Boxed w' _ _ _ from heap_below b2 hb).frozen)
      have b1' : Boxed w' w.heap.size 4 (.bool false) := heap_below b1 hb
      have b2' : Boxed w' (w.heap.size + 1) 3 (.int .i64 e0) := heap_below b2 hb
      refine ⟨(KeepsFrom.of_grownBy (below_grown0 hb) (by intro j e; cases e)).trans ((KeepsOthers.setCell _ _ _).from _), (hb.mono (by omega)).trans ((Below.refl _ w').setCell (p := ⟨w.heap.size + 1, 0, none⟩) (by simp) _), ⟨b1'.other (by omega) _, ?_, hov.out⟩, (hB.trans (hb.mono hB.size)).setCell (p := ⟨w.heap.size + 1, 0, none⟩) (by simp) _, by have := hb.size; simp; omega⟩
      rw [hen2.out]
      exact b2'.set _
  case done =>
    rintro D ys W hD hys ⟨⟨b1, b2, h1⟩, hB, hS3⟩ hK
    have hcR := b1.cell
    have hfR := b1.frozen
    rw [hys, ← HR.out] at h1
    have HH := Lib.hid h1
    clear h1 hys
    gi_wp2
    have hK' := (KeepsOthers.setCell W ⟨w.heap.size, 0, none⟩ (.bool false)).same D _ hK rfl
    refine ⟨by simp, .inl ⟨_, _, rfl, run_takeDeferred hK', ?_⟩⟩
    have hc5 := cell_kept (World.cell?_setCell_same' W ⟨w.heap.size, 0, none⟩ (.bool false) (by rw [hcR]; rfl)) (grownBy_putObj' _ D (.deferred none)) (fun r e => by cases e; exact ⟨_, hK', rfl⟩)
    refine ⟨.bool false, ?_, by rw [HH.out], (hB.setCell (p := ⟨w.heap.size, 0, none⟩) (Nat.le_refl _) _).trans (belowK_b (w := w) (Nat.le_refl _) _ D _ _ (by omega) hK' rfl rfl)⟩
    simp [results, Try.f77, go_sem, hc5]
  case stop =>
    rintro D c pre W hD hpre ⟨⟨rfl, b1, ho⟩, hB⟩ hK
    have hcR := b1.cell
    have HH := Lib.hid (ovL_prefix hpre ho)
    clear hpre ho
    gi_wp2
    refine ⟨by simp, .inl ⟨_, _, rfl, run_takeDeferred hK, ?_⟩⟩
    have hc5 := cell_kept hcR (grownBy_putObj' _ D (.deferred none)) (fun r e => by cases e; exact ⟨_, hK, rfl⟩)
    refine ⟨.bool true, ?_, by rw [HR.out, HH.out], hB.trans (belowK_b (w := w) (Nat.le_refl _) W D _ _ (by omega) hK rfl rfl)⟩
    simp [results, Try.f77, go_sem, hc5]
end Go.Proofs.Ytgmjppjgbalapaa

/- sort.Search, over a function value that may draw and lay blocks. -/
namespace Go.Proofs.Ytgmjppjgbalapaa
open Go.RowKit
set_option linter.unusedVariables false
set_option linter.unusedSimpArgs false

/-- The first place at which p holds, or n. -/
structure FirstAt (n : Nat) (p : Nat → Bool) (r : Nat) : Prop where
  le : r ≤ n
  no : ∀ t, t < r → p t = false
  yes : r < n → p r = true
def SearchPost (n : Nat) (p : Nat → Bool) (w : World) (e : Ending) (w' : World) : Prop := ∃ r : Nat, e = .returned (.int .i64 r) ∧ FirstAt n p r ∧ Below w.heap.size w w'

set_option maxRecDepth 100000 in
set_option maxHeartbeats 2000000 in
theorem search_any (cb : Nat) (lb : Array Value) (n : Nat) (p : Nat → Bool) (w : World) (eg : ∀ args w, (callFunc cb args).run Try.prog w = .ok (.enter cb args) w) (hsz : n ≤ 4611686018427387903)
    (hf : ∀ (s : HeldW w []) (i : Nat), i < n → Calls Try.prog cb (#[.int .i64 i] ++ lb) s.w (Gives (.bool (p i)) s.w)) (hmono : ∀ a b, a ≤ b → b < n → p a = true → p b = true) :
    Calls Try.prog 75 #[.int .i64 n, .func (.func cb) #[] lb] w (SearchPost n p w) := by
  have HF := Lib.hid hf
  have HM := Lib.hid hmono
  have hpost : Hid (∀ (r : Nat) (s : HeldW w []), FirstAt n p r → SearchPost n p w (.returned (.int .i64 r)) s.w) := Lib.hid fun r s h => ⟨r, rfl, h, s.below⟩
  clear hf hmono
  go_enter Try.func75, Try.ntmps75
  go_wp2
  go_loopw [5, 6] (fun u v wr => ∃ i j : Nat, i ≤ j ∧ j ≤ n ∧ u = .int .i64 i ∧ v = .int .i64 j ∧ Hid ((∀ t, t < i → p t = false) ∧ (∀ t, j ≤ t → t < n → p t = true)) ∧ ∃ s : HeldW w [], wr = s.w) (fun u v _ => (intOf v).toNat - (intOf u).toNat)
  case atStart => exact ⟨0, n, by omega, by omega, rfl, rfl, Lib.hid ⟨fun t ht => by omega, fun t h1 h2 => by omega⟩, HeldW.start w, rfl⟩
  case round =>
    obtain ⟨i, j, hij, hjn, rfl, rfl, hI, s, rfl⟩ := hrel
    by_cases hlt : i < j
    · obtain ⟨H, hH⟩ : ∃ H, H = (i + j) / 2 := ⟨_, rfl⟩
      have rh : ((i : Int) + (j : Int)) / 2 = (H : Int) := by omega
      have l3 : i ≤ H := by omega
      have l4 : H < j := by omega
      have hc := HF.out s H (by omega)
      clear hH
      cases hp : p H with
      | true =>
        have hstep : Hid ((∀ t, t < i → p t = false) ∧ (∀ t, H ≤ t → t < n → p t = true)) := Lib.hid ⟨hI.out.1, fun t h1 h2 => HM.out H t h1 h2 hp⟩
        rw [hp] at hc
        clear hp
        go_wp2_with (go_at_fn cb; refine (HeldW.call hc).mono ?_; rintro e _ ⟨rfl, s2, rfl⟩)
        go_roundw
        case rel => exact ⟨i, H, by omega, by omega, rfl, by go_num, hstep, s2, rfl⟩
        case measure => simp [intOf]; omega
      | false =>
        have hstep : Hid ((∀ t, t < H + 1 → p t = false) ∧ (∀ t, j ≤ t → t < n → p t = true)) := Lib.hid ⟨fun t h1 => (by
          cases ht : p t with
          | false => rfl
          | true => exact absurd (HM.out t H (by omega) (by omega) ht) (by rw [hp]; simp)), hI.out.2⟩
        rw [hp] at hc
        clear hp
        go_wp2_with (go_at_fn cb; refine (HeldW.call hc).mono ?_; rintro e _ ⟨rfl, s2, rfl⟩)
        go_roundw
        case rel => exact ⟨H + 1, j, by omega, by omega, by go_num, rfl, hstep, s2, rfl⟩
        case measure => simp [intOf]; omega
    · obtain rfl : i = j := by omega
      go_wp2
      go_ret
      exact hpost.out i s ⟨hjn, hI.out.1, fun h => hI.out.2 i (Nat.le_refl _) h⟩
end Go.Proofs.Ytgmjppjgbalapaa
