import Derived.Test.YtdedfjkenbaebaaDoorE08a11
import Derived.Test.YtdedfjkenbaebaaDoorE08a20
import Derived.RangeFuncBox
import Derived.RangeFuncLeaves
import Derived.RangeFuncNested
import Derived.RangeFuncWrites
import Derived.Shelf.Abstract
import Derived.WalkKit
import Derived.OwnWalk
import Derived.OwnWalkIn
import Derived.TacticsInMore
import Derived.LoopNIn
import Derived.LoopIn
import Derived.Maps.AppendAt
import Derived.Test.YtdedfjkenbaebaaDoorE08a6
/- Rows of numbers, rows of pairs; lookUp of package patch. -/
namespace Go.Proofs.YtdedfjkenbaebaaDoor
open Go.RowKit
set_option linter.unusedVariables false
set_option linter.unusedSimpArgs false

/-- A new row of numbers. -/
def RowPost (xs : List Int) (w : World) (e : Ending) (w' : World) : Prop :=
  ∃ g, e = .returned (.slice (some ⟨g, 0, none⟩) xs.length xs.length) ∧ w.heap.size ≤ g ∧ w'.heap[g]? = some (rowI xs.toArray) ∧ Below w.heap.size w w'
/-- A slice of numbers. -/
structure IntsIn (w : World) (a : Option Addr) (l : List Int) (cap : Nat) : Prop where
  len : l.length ≤ cap
  capb : cap ≤ 9223372036854775807
  cells : 0 < l.length → ∃ b o, a = some ⟨b, o, none⟩ ∧ ∀ i, i < l.length → w.cell? ⟨b, o + i, none⟩ = some (.int .i64 (l[i]?.getD 0))
theorem IntsIn.below {w w' : World} {a : Option Addr} {l : List Int} {cap : Nat} (h : IntsIn w a l cap) (hb : Below w.heap.size w w') : IntsIn w' a l cap :=
  ⟨h.len, h.capb, fun hp => by
    obtain ⟨b, o, e, hc⟩ := h.cells hp
    exact ⟨b, o, e, fun i hi => (hb.cell (p := ⟨b, o + i, none⟩) (World.block_lt_of_cell? _ _ (hc i hi))).trans (hc i hi)⟩⟩
theorem ints_row {w : World} {g : Nat} {xs : List Int} (h : w.heap[g]? = some (rowI xs.toArray)) (hl : xs.length ≤ 1000000) : IntsIn w (some ⟨g, 0, none⟩) xs xs.length :=
  ⟨Nat.le_refl _, by omega, fun _ => ⟨g, 0, rfl, fun i hi => by
    rw [Nat.zero_add, cell_of h]
    simp [hi]⟩⟩
theorem ints_nil (w : World) : IntsIn w none [] 0 := ⟨Nat.le_refl _, by omega, fun h => by simp at h⟩
/-- A slice of pairs. -/
structure PairsIn (w : World) (a : Option Addr) (l : List (Int × Int)) (cap : Nat) : Prop where
  len : l.length ≤ cap
  capb : cap ≤ 9223372036854775807
  cells : 0 < l.length → ∃ b o, a = some ⟨b, o, none⟩ ∧ ∀ i p, l[i]? = some p → w.cell? ⟨b, o + i * 2, none⟩ = some (.int .i64 p.1) ∧ w.cell? ⟨b, o + i * 2 + 1, none⟩ = some (.int .i64 p.2)
theorem PairsIn.below {w w' : World} {a : Option Addr} {l : List (Int × Int)} {cap : Nat} (h : PairsIn w a l cap) (hb : Below w.heap.size w w') : PairsIn w' a l cap :=
  ⟨h.len, h.capb, fun hp => by
    obtain ⟨b, o, e, hc⟩ := h.cells hp
    exact ⟨b, o, e, fun i p hi => ⟨(hb.cell (p := ⟨b, o + i * 2, none⟩) (World.block_lt_of_cell? _ _ (hc i p hi).1)).trans (hc i p hi).1, (hb.cell (p := ⟨b, o + i * 2 + 1, none⟩) (World.block_lt_of_cell? _ _ (hc i p hi).2)).trans (hc i p hi).2⟩⟩⟩
theorem row_ext {L : Nat} {dk : Array Int} {xs : List Int} (hs : dk.size = L) (hx : xs.length = L) (h : ∀ i, i < L → dk[i]! = xs[i]?.getD 0) : dk = xs.toArray := by
  apply Array.ext_getElem?
  intro i
  by_cases hi : i < L
  · have h1 := h i hi
    rw [getElem!_pos dk i (by omega)] at h1
    rw [Array.getElem?_eq_getElem (by omega), h1]
    simp [hx, hi]
  · rw [Array.getElem?_eq_none (by omega), Array.getElem?_eq_none (by simp; omega)]
theorem row_step {L k : Nat} {dk : Array Int} {f : Nat → Int} (hs : dk.size = L) (hk : k < L) (h : ∀ i, i < k → dk[i]! = f i) : ∀ i, i < k + 1 → (dk.setIfInBounds k (f k))[i]! = f i := fun i hi => by
  rw [getElem!_pos _ i (by simp; omega), Array.getElem_setIfInBounds (by omega)]
  by_cases e : k = i
  · subst e; simp
  · rw [if_neg e]
    have := h i (by omega)
    rwa [getElem!_pos dk i (by omega)] at this

/-- What a map yields, or none. -/
def yieldE {K : Type} [DecidableEq K] (es : List (K × Int × Nat)) (x : K) : Int := (getE es x).getD (-1)

set_option maxRecDepth 100000 in
set_option maxHeartbeats 4000000 in
theorem lookUp8_any (M clock : Nat) (es : List (Int × Int × Nat)) (a : Option Addr) (l : List Int) (cap : Nat) (w : World) (hM : w.heap[M]? = some (mapO k8 es clock)) (hb : BytesIn w a l cap) (hL : l.length ≤ 1000000) :
    Calls Tryd.prog 101 #[.map (some M), .slice a l.length cap] w (RowPost (l.map (yieldE es)) w) := by
  have HM := Lib.hid hM
  have HB := Lib.hid hb
  have hpost : Hid (∀ g W, w.heap.size ≤ g → W.heap[g]? = some (rowI (l.map (yieldE es)).toArray) → Below w.heap.size w W → RowPost (l.map (yieldE es)) w (.returned (.slice (some ⟨g, 0, none⟩) l.length l.length)) W) := Lib.hid fun g W h1 h2 h3 => ⟨g, by simp, h1, h2, h3⟩
  obtain ⟨POST, hP⟩ : ∃ P, P = RowPost (l.map (yieldE es)) w := ⟨_, rfl⟩
  rw [← hP] at hpost ⊢
  obtain ⟨L, hLe⟩ : ∃ L, L = l.length := ⟨_, rfl⟩
  have HL := Lib.hid hLe
  have hmk := fun w => make_ints L (by omega) w
  rw [← hLe] at hL hpost ⊢
  clear hM hb hLe hP
  go_enter Tryd.func101, Tryd.ntmps101
  go_wp2
  obtain ⟨s, hs⟩ : ∃ s : HeldW w [(w.heap.size, rowI (Array.replicate L 0))], w.alloc (rowI (Array.replicate L 0)) = s.w := start1 w _
  rw [hs]
  clear hs hmk
  go_loopw [15] (fun v wr => ∃ k : Nat, k ≤ L ∧ v = .int .i64 k ∧ ∃ dk : Array Int, dk.size = L ∧ Hid (∀ i, i < k → dk[i]! = yieldE es (l[i]?.getD 0)) ∧ ∃ s : HeldW w [(w.heap.size, rowI dk)], wr = s.w) (fun v _ => L - (intOf v).toNat)
  case atStart => exact ⟨0, by omega, rfl, _, by simp, Lib.hid (fun i hi => by omega), s, rfl⟩
  case round =>
    clear s
    obtain ⟨k, hk, rfl, dk, hsz, hf, s, rfl⟩ := hrel
    by_cases hlt : k < L
    · obtain ⟨bb, oo, rfl, hc⟩ := (HB.out.below s.below).cells (by rw [← HL.out]; omega)
      have c1 := hc k (by rw [← HL.out]; exact hlt)
      have hlk := lookup_any key8 s.w M es clock (heap_below HM.out s.below) (l[k]?.getD 0)
      have hst := row_step (f := fun i => yieldE es (l[i]?.getD 0)) hsz hlt hf.out
      generalize l[k]?.getD 0 = d at c1 hlk hst
      obtain ⟨u, c2⟩ : ∃ u, s.w.cell? ⟨w.heap.size, k, none⟩ = some u := ⟨.int .i64 dk[k]!, by rw [cell_of (s.blocks (w.heap.size, rowI dk) List.mem_cons_self)]; simp [getElem!_pos dk k (by omega), show k < dk.size by omega]⟩
      have f2 : s.w.frozen? ⟨w.heap.size, k, none⟩ = false := free_of (s.blocks (w.heap.size, rowI dk) List.mem_cons_self) k
      have HST := Lib.hid hst
      have HS : Hid (∀ v : Int, ∃ s' : HeldW w [(w.heap.size, rowI (dk.setIfInBounds k v))], s.w.setCell ⟨w.heap.size, k, none⟩ (.int .i64 v) = s'.w) := Lib.hid fun v => ⟨HeldW.store (i := k) (v := .int .i64 v) s (by omega) (by simp) (by simp), rfl⟩
      clear hst hc hf
      cases hg : getE es d with
      | none =>
        rw [hg] at hlk
        simp only [Option.getD_none, Option.isSome_none] at hlk
        have hy : yieldE es d = -1 := by unfold yieldE; rw [hg]; rfl
        rw [hy] at HST
        clear hg hy
        go_wp2
        obtain ⟨s', hs'⟩ := HS.out (-1)
        rw [hs']
        go_roundw
        case rel => exact ⟨k + 1, by omega, by go_num, _, by simp [hsz], HST, s', rfl⟩
        case measure => simp [intOf]; omega
      | some v =>
        rw [hg] at hlk
        simp only [Option.getD_some, Option.isSome_some] at hlk
        have hy : yieldE es d = v := by unfold yieldE; rw [hg]; rfl
        rw [hy] at HST
        clear hg hy
        go_wp2
        obtain ⟨s', hs'⟩ := HS.out v
        rw [hs']
        go_roundw
        case rel => exact ⟨k + 1, by omega, by go_num, _, by simp [hsz], HST, s', rfl⟩
        case measure => simp [intOf]; omega
    · obtain rfl : k = L := by omega
      have hfin := Lib.hid (hpost.out w.heap.size s.w (Nat.le_refl _) (by
        rw [← row_ext (L := k) hsz (by simp [HL.out]) (fun i hi => by
          rw [hf.out i hi, List.getElem?_map, List.getElem?_eq_getElem (by rw [← HL.out]; exact hi)]
          rfl)]
        exact s.blocks _ List.mem_cons_self) s.below)
      clear hf
      go_wp2
      exact hfin.out
set_option maxRecDepth 100000 in
set_option maxHeartbeats 4000000 in
theorem lookUp2_any (M clock : Nat) (es : List ((Int × Int) × Int × Nat)) (a : Option Addr) (l : List (Int × Int)) (cap : Nat) (w : World) (hM : w.heap[M]? = some (mapO k2 es clock)) (hb : PairsIn w a l cap) (hL : l.length ≤ 1000000) :
    Calls Tryd.prog 103 #[.map (some M), .slice a l.length cap] w (RowPost (l.map (yieldE es)) w) := by
  have HM := Lib.hid hM
  have HB := Lib.hid hb
  have hpost : Hid (∀ g W, w.heap.size ≤ g → W.heap[g]? = some (rowI (l.map (yieldE es)).toArray) → Below w.heap.size w W → RowPost (l.map (yieldE es)) w (.returned (.slice (some ⟨g, 0, none⟩) l.length l.length)) W) := Lib.hid fun g W h1 h2 h3 => ⟨g, by simp, h1, h2, h3⟩
  obtain ⟨POST, hP⟩ : ∃ P, P = RowPost (l.map (yieldE es)) w := ⟨_, rfl⟩
  rw [← hP] at hpost ⊢
  obtain ⟨L, hLe⟩ : ∃ L, L = l.length := ⟨_, rfl⟩
  have HL := Lib.hid hLe
  have hmk := fun w => make_ints L (by omega) w
  rw [← hLe] at hL hpost ⊢
  clear hM hb hLe hP
  go_enter Tryd.func103, Tryd.ntmps103
  go_wp2
  obtain ⟨s, hs⟩ : ∃ s : HeldW w [(w.heap.size, rowI (Array.replicate L 0))], w.alloc (rowI (Array.replicate L 0)) = s.w := start1 w _
  rw [hs]
  clear hs hmk
  go_loopw [15] (fun v wr => ∃ k : Nat, k ≤ L ∧ v = .int .i64 k ∧ ∃ dk : Array Int, dk.size = L ∧ Hid (∀ i, i < k → dk[i]! = yieldE es (l[i]?.getD (0, 0))) ∧ ∃ s : HeldW w [(w.heap.size, rowI dk)], wr = s.w) (fun v _ => L - (intOf v).toNat)
  case atStart => exact ⟨0, by omega, rfl, _, by simp, Lib.hid (fun i hi => by omega), s, rfl⟩
  case round =>
    clear s
    obtain ⟨k, hk, rfl, dk, hsz, hf, s, rfl⟩ := hrel
    by_cases hlt : k < L
    · obtain ⟨bb, oo, rfl, hc⟩ := (HB.out.below s.below).cells (by rw [← HL.out]; omega)
      obtain ⟨p, hp⟩ : ∃ p, l[k]? = some p := ⟨_, List.getElem?_eq_getElem (by rw [← HL.out]; exact hlt)⟩
      obtain ⟨c1, c1'⟩ := hc k p hp
      have hpd : l[k]?.getD (0, 0) = p := by rw [hp]; rfl
      have hlk : ∀ o : Obj, (Instr.lookup 145 (.map (some M)) (k2 (l[k]?.getD (0, 0))) true).run Tryd.prog (s.w.alloc o) = .ok (.tuple #[.int .i64 ((getE es (l[k]?.getD (0, 0))).getD 0), .bool (getE es (l[k]?.getD (0, 0))).isSome]) (s.w.alloc o) := fun o => lookup_any key2 _ M es clock (heap_old (heap_below HM.out s.below) o) _
      have hst := row_step (f := fun i => yieldE es (l[i]?.getD (0, 0))) hsz hlt hf.out
      rw [hpd] at hlk hst
      obtain ⟨d0, d1⟩ := p
      simp only [k2] at hlk
      simp only at c1 c1'
      clear hpd hp
      obtain ⟨u, c2⟩ : ∃ u, ∀ o, (s.w.alloc o).cell? ⟨w.heap.size, k, none⟩ = some u := ⟨.int .i64 dk[k]!, fun o => by rw [cell_of (heap_old (s.blocks (w.heap.size, rowI dk) List.mem_cons_self) o)]; simp [getElem!_pos dk k (by omega), show k < dk.size by omega]⟩
      have f2 : ∀ o, (s.w.alloc o).frozen? ⟨w.heap.size, k, none⟩ = false := fun o => free_of (heap_old (s.blocks (w.heap.size, rowI dk) List.mem_cons_self) o) k
      have HST := Lib.hid hst
      have HS : Hid (∀ (o : Obj) (v : Int), ∃ s' : HeldW w [(w.heap.size, rowI (dk.setIfInBounds k v))], (s.w.alloc o).setCell ⟨w.heap.size, k, none⟩ (.int .i64 v) = s'.w) := Lib.hid fun o v => ⟨HeldW.store (i := k) (v := .int .i64 v) ((s.push o).sub (bs' := [(w.heap.size, rowI dk)]) (by simp)) (by omega) (by simp) (by simp), rfl⟩
      clear hst hc hf
      cases hg : getE es (d0, d1) with
      | none =>
        rw [hg] at hlk
        simp only [Option.getD_none, Option.isSome_none] at hlk
        have hy : yieldE es (d0, d1) = -1 := by unfold yieldE; rw [hg]; rfl
        rw [hy] at HST
        clear hg hy
        go_wp2
        obtain ⟨s', hs'⟩ := HS.out _ (-1)
        rw [hs']
        go_roundw
        case rel => exact ⟨k + 1, by omega, by go_num, _, by simp [hsz], HST, s', rfl⟩
        case measure => simp [intOf]; omega
      | some v =>
        rw [hg] at hlk
        simp only [Option.getD_some, Option.isSome_some] at hlk
        have hy : yieldE es (d0, d1) = v := by unfold yieldE; rw [hg]; rfl
        rw [hy] at HST
        clear hg hy
        go_wp2
        obtain ⟨s', hs'⟩ := HS.out _ v
        rw [hs']
        go_roundw
        case rel => exact ⟨k + 1, by omega, by go_num, _, by simp [hsz], HST, s', rfl⟩
        case measure => simp [intOf]; omega
    · obtain rfl : k = L := by omega
      have hfin := Lib.hid (hpost.out w.heap.size s.w (Nat.le_refl _) (by
        rw [← row_ext (L := k) hsz (by simp [HL.out]) (fun i hi => by
          rw [hf.out i hi, List.getElem?_map, List.getElem?_eq_getElem (by rw [← HL.out]; exact hi)]
          rfl)]
        exact s.blocks _ List.mem_cons_self) s.below)
      clear hf
      go_wp2
      exact hfin.out
end Go.Proofs.YtdedfjkenbaebaaDoor

/- slices.Backward of bytes and of pairs: the iterators. -/
namespace Go.Proofs.YtdedfjkenbaebaaDoor
open Go.RowKit Go.Shelf Go.Proofs.YtdedfjkenbaebaaDoor.Plain01
attribute [local go_sem] Oper.semAt_some
set_option linter.unusedVariables false
set_option linter.unusedSimpArgs false

/-- The round j of a walk from the end. -/
def bk8 (l : List Int) (j : Nat) : Int × Int := (((l.length - 1 - j : Nat) : Int), l[l.length - 1 - j]?.getD 0)
def bk2 (l : List (Int × Int)) (j : Nat) : Int × Int × Int := (((l.length - 1 - j : Nat) : Int), l[l.length - 1 - j]?.getD (0, 0))
/-- What a round keeps: all that lay below N, but the block M. -/
def KpM (N M : Nat) (A B : World) : Prop := ∀ k, k < N → k ≠ M → B.heap[k]? = A.heap[k]?
theorem KpM.refl (N M : Nat) (A : World) : KpM N M A A := fun _ _ _ => rfl
theorem KpM.trans {N M : Nat} {A B C : World} (h : KpM N M A B) (k : KpM N M B C) : KpM N M A C := fun i hi hn => (k i hi hn).trans (h i hi hn)
theorem KpM.of_below {N M : Nat} {A B : World} (h : Below N A B) : KpM N M A B := fun i hi _ => h.block i hi
theorem KpM.put {N M : Nat} {w : World} (hN : N ≤ w.heap.size) (W : World) (l : Nat) (o o' : Obj) (hl : w.heap.size ≤ l) (_ : W.heap[l]? = some o) (_ : o.isCells = false) (_ : o.isWalk = false) : KpM N M W (W.putObj l o') := fun i hi _ => World.putObj_heap_other (by omega)
theorem KpM.cell {N M : Nat} {A B : World} (h : KpM N M A B) {p : Addr} {v : Value} (hc : A.cell? p = some v) (hN : p.block < N) (hM : p.block ≠ M) : B.cell? p = some v := by
  rw [← hc]
  unfold World.cell?
  rw [h _ hN hM]

set_option maxRecDepth 100000 in
set_option maxHeartbeats 2000000 in
theorem back8C_stops (n : Nat) (hn : 1 ≤ n) (Bs M : Nat) (a : Option Addr) (l : List Int) (cap : Nat) (w : World) (hB : w.heap[Bs]? = some (.cells #[.slice a l.length cap] 22 (0, 0))) (hBM : Bs ≠ M) (hb : BytesIn w a l cap) (hM : ∀ ad, 0 < l.length → a = some ad → ad.block ≠ M) (hL : l.length ≤ 1000000) :
    SeqStopsK Fence.wide n Tryd.prog 114 #[.pointer (some ⟨Bs, 0, none⟩)] (fun x : Int × Int => #[.int .i64 x.1, .int .u8 x.2]) (KpM w.heap.size M)
      (fun ys => ys = upto (bk8 l) l.length) (fun pre => ∃ k, k ≤ l.length ∧ pre = upto (bk8 l) k) l.length w := fun lp J Jx W hW hJ _ hY h0 => by
  have HBX := Lib.hid hb
  have hBl := (Array.getElem?_eq_some_iff.1 hB).1
  obtain ⟨L, hLe⟩ : ∃ L, L = l.length := ⟨_, rfl⟩
  have cS : ∀ X : World, KpM w.heap.size M w X → X.cell? ⟨Bs, 0, none⟩ = some (.slice a L cap) := fun X h => KpM.cell h (by rw [cell_of hB, hLe]; rfl) hBl hBM
  have cI : ∀ (X : World), KpM w.heap.size M w X → ∀ b o, a = some ⟨b, o, none⟩ → (∀ i, i < l.length → w.cell? ⟨b, o + i, none⟩ = some (.int .u8 (l[i]?.getD 0))) → ∀ i, i < L → X.cell? ⟨b, o + i, none⟩ = some (.int .u8 (l[i]?.getD 0)) := fun X h b o e hc i hi =>
    KpM.cell h (hc i (by omega)) (World.block_lt_of_cell? _ _ (hc i (by omega))) (show b ≠ M from hM ⟨b, o, none⟩ (by omega) e)
  have HL := Lib.hid hLe
  have hLb : L ≤ 1000000 := by omega
  rw [← hLe] at hY
  have hKW : KpM w.heap.size M w W := KpM.of_below hW
  have s0 := cS W hKW
  clear hB hLe hb hM hL
  refine callsIn_of_wp Tryd.func114 rfl trivial ?_ rfl
  simp only [Tryd.ntmps114, List.size_toArray, List.length_cons, List.length_nil, Nat.reduceAdd, Nat.reduceSub, Array.replicate_succ, Array.replicate_zero, List.push_toArray, List.append_toArray, List.nil_append, List.cons_append]
  gi_wp2
  gi_loopw [3] (fun i wr => ∃ k : Nat, k ≤ L ∧ ∃ p : Int, i = .int .i64 p ∧ Hid (p = (L : Int) - 1 - k) ∧ J (upto (bk8 l) k) wr ∧ KpM w.heap.size M w wr) (fun i _ => (intOf i + 1).toNat)
  case atStart => exact ⟨0, Nat.zero_le _, (L : Int) - 1, rfl, Lib.hid (by omega), h0, hKW⟩
  case round =>
    clear s0
    obtain ⟨k, hk, p, rfl, hp, hJs, hK⟩ := hrel
    by_cases hlt : k < L
    · obtain ⟨m, rfl⟩ : ∃ m : Nat, p = m := ⟨p.toNat, by have := hp.out; omega⟩
      have hmk : m = L - 1 - k := by have := hp.out; omega
      have hmL : m < L := by omega
      obtain ⟨b, o, rfl, hc⟩ := HBX.out.cells (by rw [← HL.out]; omega)
      have c1 := cI wr hK b o rfl hc m hmL
      have s1 := cS wr hK
      have hx : bk8 l k = ((m : Int), l[m]?.getD 0) := by unfold bk8; rw [← HL.out, ← hmk]
      have hsn := upto_succ (bk8 l) k
      rw [hx] at hsn
      have HSN := Lib.hid hsn
      obtain ⟨fn, tmps, assign, body, hy, hR⟩ := hY (upto (bk8 l) k) ((m : Int), l[m]?.getD 0) wr hJs (by rw [upto_length]; exact hlt)
      rw [← hsn] at hR
      dsimp only at hy
      generalize l[m]?.getD 0 = d at c1 hy
      clear hc hsn hx hmk hY cI
      gi_wp2
      refine hR.mono ?_
      rintro e W3 (⟨rfl, hJ3, hk3⟩ | ⟨rfl, hJx3⟩)
      · gi_wp2
        go_roundw
        case rel => exact ⟨k + 1, by omega, (m : Int) - 1, by first | rfl | go_num, Lib.hid (by have := hp.out; omega), hJ3, hK.trans hk3⟩
        case measure => simp [intOf] <;> omega
      · gi_wp2
        refine bodyPost_ret (results_none rfl _ _ _) rfl ?_
        exact ⟨⟨_, rfl⟩, .inr ⟨_, ⟨k + 1, by rw [← HL.out]; omega, rfl⟩, hJx3⟩⟩
    · obtain rfl : k = L := by omega
      have hpn : p = -1 := by have := hp.out; omega
      subst hpn
      have hfin : Hid (∃ ys, ys = upto (bk8 l) l.length ∧ J ys wr) := Lib.hid ⟨_, rfl, by rw [← HL.out]; exact hJs⟩
      gi_wp2
      go_end0
      exact ⟨⟨_, rfl⟩, .inl hfin.out⟩

theorem backward8_any (a : Option Addr) (L cap : Nat) (w : World) : Calls Tryd.prog 100 #[.slice a L cap] w fun e w' =>
    e = .returned (.func (.func 114) #[] #[.pointer (some ⟨w.heap.size, 0, none⟩)]) ∧ w' = w.alloc (.cells #[.slice a L cap] 22) := by
  go_enter Tryd.func100, Tryd.ntmps100
  go_wp2
  go_ret
  exact ⟨rfl, rfl⟩
set_option maxRecDepth 100000 in
set_option maxHeartbeats 2000000 in
theorem back2C_stops (n : Nat) (hn : 1 ≤ n) (Bs M : Nat) (a : Option Addr) (l : List (Int × Int)) (cap : Nat) (w : World) (hB : w.heap[Bs]? = some (.cells #[.slice a l.length cap] 113 (0, 0))) (hBM : Bs ≠ M) (hb : PairsIn w a l cap) (hM : ∀ ad, 0 < l.length → a = some ad → ad.block ≠ M) (hL : l.length ≤ 1000000) :
    SeqStopsK Fence.wide n Tryd.prog 115 #[.pointer (some ⟨Bs, 0, none⟩)] (fun x : Int × Int × Int => #[.int .i64 x.1, k2 x.2]) (KpM w.heap.size M)
      (fun ys => ys = upto (bk2 l) l.length) (fun pre => ∃ k, k ≤ l.length ∧ pre = upto (bk2 l) k) l.length w := fun lp J Jx W hW hJ _ hY h0 => by
  have HBX := Lib.hid hb
  have hBl := (Array.getElem?_eq_some_iff.1 hB).1
  obtain ⟨L, hLe⟩ : ∃ L, L = l.length := ⟨_, rfl⟩
  have cS : ∀ X : World, KpM w.heap.size M w X → X.cell? ⟨Bs, 0, none⟩ = some (.slice a L cap) := fun X h => KpM.cell h (by rw [cell_of hB, hLe]; rfl) hBl hBM
  have cI : ∀ (X : World), KpM w.heap.size M w X → ∀ b o, a = some ⟨b, o, none⟩ → (∀ i p, l[i]? = some p → w.cell? ⟨b, o + i * 2, none⟩ = some (.int .i64 p.1) ∧ w.cell? ⟨b, o + i * 2 + 1, none⟩ = some (.int .i64 p.2)) → ∀ i p, l[i]? = some p → X.cell? ⟨b, o + i * 2, none⟩ = some (.int .i64 p.1) ∧ X.cell? ⟨b, o + i * 2 + 1, none⟩ = some (.int .i64 p.2) := fun X h b o e hc i p hi =>
    have hlen : 0 < l.length := by have := (List.getElem?_eq_some_iff.1 hi).1; omega
    ⟨KpM.cell h (hc i p hi).1 (World.block_lt_of_cell? _ _ (hc i p hi).1) (show b ≠ M from hM ⟨b, o, none⟩ hlen e), KpM.cell h (hc i p hi).2 (World.block_lt_of_cell? _ _ (hc i p hi).2) (show b ≠ M from hM ⟨b, o, none⟩ hlen e)⟩
  have HL := Lib.hid hLe
  have hLb : L ≤ 1000000 := by omega
  rw [← hLe] at hY
  have hKW : KpM w.heap.size M w W := KpM.of_below hW
  have s0 := cS W hKW
  clear hB hLe hb hM hL
  refine callsIn_of_wp Tryd.func115 rfl trivial ?_ rfl
  simp only [Tryd.ntmps115, List.size_toArray, List.length_cons, List.length_nil, Nat.reduceAdd, Nat.reduceSub, Array.replicate_succ, Array.replicate_zero, List.push_toArray, List.append_toArray, List.nil_append, List.cons_append]
  gi_wp2
  gi_loopw [3] (fun i wr => ∃ k : Nat, k ≤ L ∧ ∃ p : Int, i = .int .i64 p ∧ Hid (p = (L : Int) - 1 - k) ∧ J (upto (bk2 l) k) wr ∧ KpM w.heap.size M w wr) (fun i _ => (intOf i + 1).toNat)
  case atStart => exact ⟨0, Nat.zero_le _, (L : Int) - 1, rfl, Lib.hid (by omega), h0, hKW⟩
  case round =>
    clear s0
    obtain ⟨k, hk, p, rfl, hp, hJs, hK⟩ := hrel
    by_cases hlt : k < L
    · obtain ⟨m, rfl⟩ : ∃ m : Nat, p = m := ⟨p.toNat, by have := hp.out; omega⟩
      have hmk : m = L - 1 - k := by have := hp.out; omega
      have hmL : m < L := by omega
      obtain ⟨b, o, rfl, hc⟩ := HBX.out.cells (by rw [← HL.out]; omega)
      obtain ⟨pr, hpr⟩ : ∃ pr, l[m]? = some pr := ⟨_, List.getElem?_eq_getElem (by rw [← HL.out]; exact hmL)⟩
      obtain ⟨c1, c1'⟩ := cI wr hK b o rfl hc m pr hpr
      have hgd : l[m]?.getD (0, 0) = pr := by rw [hpr]; rfl
      have s1 := cS wr hK
      have hx : bk2 l k = ((m : Int), l[m]?.getD (0, 0)) := by unfold bk2; rw [← HL.out, ← hmk]
      rw [hgd] at hx
      have hsn := upto_succ (bk2 l) k
      rw [hx] at hsn
      have HSN := Lib.hid hsn
      obtain ⟨d0, d1⟩ := pr
      obtain ⟨fn, tmps, assign, body, hy, hR⟩ := hY (upto (bk2 l) k) ((m : Int), (d0, d1)) wr hJs (by rw [upto_length]; exact hlt)
      rw [← hsn] at hR
      dsimp only [k2] at hy c1 c1'
      clear hc hsn hx hmk hY cI hgd hpr
      gi_wp2
      refine hR.mono ?_
      rintro e W3 (⟨rfl, hJ3, hk3⟩ | ⟨rfl, hJx3⟩)
      · gi_wp2
        go_roundw
        case rel => exact ⟨k + 1, by omega, (m : Int) - 1, by first | rfl | go_num, Lib.hid (by have := hp.out; omega), hJ3, hK.trans hk3⟩
        case measure => simp [intOf] <;> omega
      · gi_wp2
        refine bodyPost_ret (results_none rfl _ _ _) rfl ?_
        exact ⟨⟨_, rfl⟩, .inr ⟨_, ⟨k + 1, by rw [← HL.out]; omega, rfl⟩, hJx3⟩⟩
    · obtain rfl : k = L := by omega
      have hpn : p = -1 := by have := hp.out; omega
      subst hpn
      have hfin : Hid (∃ ys, ys = upto (bk2 l) l.length ∧ J ys wr) := Lib.hid ⟨_, rfl, by rw [← HL.out]; exact hJs⟩
      gi_wp2
      go_end0
      exact ⟨⟨_, rfl⟩, .inl hfin.out⟩

theorem backward2_any (a : Option Addr) (L cap : Nat) (w : World) : Calls Tryd.prog 102 #[.slice a L cap] w fun e w' =>
    e = .returned (.func (.func 115) #[] #[.pointer (some ⟨w.heap.size, 0, none⟩)]) ∧ w' = w.alloc (.cells #[.slice a L cap] 113) := by
  go_enter Tryd.func102, Tryd.ntmps102
  go_wp2
  go_ret
  exact ⟨rfl, rfl⟩
end Go.Proofs.YtdedfjkenbaebaaDoor
