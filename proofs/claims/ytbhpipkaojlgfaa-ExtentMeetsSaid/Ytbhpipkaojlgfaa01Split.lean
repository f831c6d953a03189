/- The functions count, pieces and Split of package extent: what they return at every valid extent and every size. -/
import Derived.RangeFuncBox
import Derived.RangeFuncLeaves
import Derived.RangeFuncNested
import Derived.Shelf.Abstract
import Derived.WalkKit
import Derived.OwnWalk
import Derived.OwnWalkIn
import Derived.TacticsInMore
import Derived.LoopNIn
import Derived.LoopIn
import Derived.Maps.AppendAt
import Derived.Lib.Hide
import Derived.Test.Ytbhpipkaojlgfaa01Plain
import Derived.Test.YtbhpipkaojlgfaaProg
namespace Go.Proofs.Ytbhpipkaojlgfaa
open Go.RowKit Go.Shelf Go.Proofs.Ytbhpipkaojlgfaa.Plain01
attribute [local go_sem] Oper.semAt_some

theorem ret_int {k : IntKind} {a b : Int} (h : a = b) : Ending.returned (.int k a) = .returned (.int k b) := by rw [h]
abbrev extV (x : Int × Int) : Value := .agg #[.int .i64 x.1, .int .i64 x.2]

/-- count returns how many pieces there are. -/
theorem count_any (off len size : Int) (hlen : len ≤ 4611686018427387903) (hs : size ≤ 9223372036854775807) (w : World) :
    Calls Try.prog 27 #[.agg #[.int .i64 off, .int .i64 len], .int .i64 size] w fun e w' => e = .returned (.int .i64 (cnt len size)) ∧ w' = w.alloc (.cells #[.int .i64 off, .int .i64 len] 23) := by
  by_cases h1 : len < 1
  · go_enter Try.func27, Try.ntmps27
    go_wp2
    go_ret
    exact ⟨ret_int (cnt_none (.inl (by omega))).symm, rfl⟩
  · by_cases h2 : size < 1
    · go_enter Try.func27, Try.ntmps27
      go_wp2
      go_ret
      exact ⟨ret_int (cnt_none (.inr (by omega))).symm, rfl⟩
    · have hq := div_bd len size (by omega) (by omega)
      go_enter Try.func27, Try.ntmps27
      go_wp2
      go_ret
      exact ⟨ret_int (cnt_some (by omega) (by omega)).symm, rfl⟩

/-- What has come when k rounds are over. -/
def upto {α : Type} (f : Nat → α) (k : Nat) : List α := (List.range k).map f
theorem upto_succ {α : Type} (f : Nat → α) (k : Nat) : upto f (k + 1) = upto f k ++ [f k] := by simp [upto, List.range_succ]
theorem upto_length {α : Type} (f : Nat → α) (k : Nat) : (upto f k).length = k := by simp [upto]

/-- pieces boxes its two arguments; the function value captures the boxes. -/
theorem pieces_any (off len size : Int) (w : World) :
    Calls Try.prog 28 #[.agg #[.int .i64 off, .int .i64 len], .int .i64 size] w fun e w' =>
      e = .returned (.func (.func 29) #[] #[.pointer (some ⟨w.heap.size, 0, none⟩), .pointer (some ⟨w.heap.size + 1, 0, none⟩)]) ∧
      w' = (w.alloc (.cells #[.int .i64 off, .int .i64 len] 23)).alloc (.cells #[.int .i64 size] 3) := by
  go_enter Try.func28, Try.ntmps28
  go_wp2
  go_ret
  exact ⟨rfl, rfl⟩

/-- What a round that goes on keeps: the two captured boxes. -/
def KpBoxes (Be Bs : Nat) (A B : World) : Prop := B.heap[Be]? = A.heap[Be]? ∧ B.heap[Bs]? = A.heap[Bs]?

set_option maxRecDepth 100000 in
set_option maxHeartbeats 2000000 in
/-- The closure of pieces, for every loop body that keeps the two captured boxes. -/
theorem pieces1_in (n : Nat) (hn : 1 ≤ n) (l Be Bs : Nat) (off len size : Int) (hoff : 0 ≤ off) (hlen : 0 ≤ len) (hsum : off + len ≤ 4611686018427387903) (hs : size ≤ 9223372036854775807) (J Jx : List (Int × Int) → World → Prop)
    (hY : ∀ pre x W, J pre W → pre.length < (cnt len size).toNat → YieldAt Fence.wide (n - 1) Try.prog l #[extV x] W fun e W' =>
      (e = .returned (.bool true) ∧ J (pre ++ [x]) W' ∧ KpBoxes Be Bs W W') ∨ (e = .returned (.bool false) ∧ Jx (pre ++ [x]) W'))
    (W : World) (hJ : AbidesFrom W.heap.size J) (hBe : W.heap[Be]? = some (.cells #[.int .i64 off, .int .i64 len] 23 (0, 0))) (hBs : W.heap[Bs]? = some (.cells #[.int .i64 size] 3 (0, 0))) (h0 : J [] W) :
    CallsIn Fence.wide n Try.prog 29 #[.func (.yield l) #[] #[], .pointer (some ⟨Be, 0, none⟩), .pointer (some ⟨Bs, 0, none⟩)] W fun e W' => (∃ v, e = .returned v) ∧
      ((∃ ys, ys = upto (piece off len size) (cnt len size).toNat ∧ J ys W') ∨ (∃ pre, (∃ k, k ≤ (cnt len size).toNat ∧ pre = upto (piece off len size) k) ∧ Jx pre W')) := by
  have hcb := cnt_bd len size
  obtain ⟨N, hN⟩ : ∃ N : Nat, cnt len size = N := ⟨(cnt len size).toNat, by omega⟩
  have HN := Lib.hid hN
  rw [hN] at hY ⊢
  simp only [Int.toNat_natCast] at hY ⊢
  have hNb : (N : Int) ≤ len := by omega
  clear hN hcb
  have hal : ∀ s A o, J s A → J s (A.alloc o) := fun s A o hs => hJ s A _ none hs (World.grownBy_alloc A o none) (by intro r e; cases e)
  have cE : ∀ X : World, X.heap[Be]? = some (.cells #[.int .i64 off, .int .i64 len] 23 (0, 0)) → X.cell? ⟨Be, 0, none⟩ = some (.int .i64 off) ∧ X.cell? ⟨Be, 1, none⟩ = some (.int .i64 len) := fun X h => by simp [World.cell?, h]
  have cS : ∀ X : World, X.heap[Bs]? = some (.cells #[.int .i64 size] 3 (0, 0)) → X.cell? ⟨Bs, 0, none⟩ = some (.int .i64 size) := fun X h => by simp [World.cell?, h]
  obtain ⟨ce0, ce1⟩ := cE W hBe
  have cs0 := cS W hBs
  refine callsIn_of_wp Try.func29 rfl trivial ?_ rfl
  simp only [Try.ntmps29, List.size_toArray, List.length_cons, List.length_nil, Nat.reduceAdd, Nat.reduceSub, Array.replicate_succ, Array.replicate_zero, List.push_toArray, List.append_toArray, List.nil_append, List.cons_append]
  gi_wp2_with (refine ⟨trivial, ?_⟩; gi_at_call 27; refine (callsIn_wide.2 (count_any off len size (by omega) hs _)).mono ?_; rintro e w' ⟨rfl, rfl⟩; rw [HN.out])
  gi_loopw [10] (fun i wr => ∃ k : Nat, k ≤ N ∧ i = .int .i64 k ∧ J (upto (piece off len size) k) wr ∧ KpBoxes Be Bs W wr)
    (fun i _ => N - (intOf i).toNat)
  case atStart =>
    refine ⟨0, Nat.zero_le _, rfl, hal _ _ _ h0, ?_, ?_⟩
    · exact Below.heap_alloc _ _ _ (Array.getElem?_eq_some_iff.1 hBe).1
    · exact Below.heap_alloc _ _ _ (Array.getElem?_eq_some_iff.1 hBs).1
  case round =>
    obtain ⟨k, hk, rfl, hJs, hkp⟩ := hrel
    have hE := hkp.1.trans hBe
    have hS := hkp.2.trans hBs
    obtain ⟨re0, re1⟩ := cE wr hE
    have rs0 := cS wr hS
    by_cases hlt : k < N
    · have hm := mul_lt (len := len) (size := size) (i := k) (by rw [HN.out]; omega)
      have hltE := (Array.getElem?_eq_some_iff.1 hE).1
      have hltS := (Array.getElem?_eq_some_iff.1 hS).1
      have hsu := upto_succ (piece off len size) k
      by_cases hle : size ≤ len - (k : Int) * size
      · rw [piece_full hle] at hsu
        have HSU := Lib.hid hsu
        clear hsu
        obtain ⟨fn, tmps, assign, body, hy, hR⟩ := hY _ (off + (k : Int) * size, size) (wr.alloc (.cells #[.int .i64 (off + (k : Int) * size), .int .i64 size] 23)) (hal _ _ _ hJs) (by rw [upto_length]; exact hlt)
        rw [← HSU.out] at hR
        dsimp only [extV] at hy
        gi_wp2
        refine hR.mono ?_
        rintro e W3 (⟨rfl, hJ3, hk3⟩ | ⟨rfl, hJx3⟩)
        · gi_wp2
          go_roundw
          case rel => exact ⟨k + 1, by omega, by simp, hJ3, hk3.1.trans ((Below.heap_alloc _ _ _ hltE).trans hkp.1), hk3.2.trans ((Below.heap_alloc _ _ _ hltS).trans hkp.2)⟩
          case measure => simp [intOf]; omega
        · gi_wp2
          refine bodyPost_ret (results_none rfl _ _ _) rfl ?_
          exact ⟨⟨_, rfl⟩, .inr ⟨_, ⟨k + 1, by omega, rfl⟩, hJx3⟩⟩
      · rw [piece_rest (by omega)] at hsu
        have HSU := Lib.hid hsu
        clear hsu
        obtain ⟨fn, tmps, assign, body, hy, hR⟩ := hY _ (off + (k : Int) * size, (len - (k : Int) * size)) (wr.alloc (.cells #[.int .i64 (off + (k : Int) * size), .int .i64 (len - (k : Int) * size)] 23)) (hal _ _ _ hJs) (by rw [upto_length]; exact hlt)
        rw [← HSU.out] at hR
        dsimp only [extV] at hy
        gi_wp2
        refine hR.mono ?_
        rintro e W3 (⟨rfl, hJ3, hk3⟩ | ⟨rfl, hJx3⟩)
        · gi_wp2
          go_roundw
          case rel => exact ⟨k + 1, by omega, by simp, hJ3, hk3.1.trans ((Below.heap_alloc _ _ _ hltE).trans hkp.1), hk3.2.trans ((Below.heap_alloc _ _ _ hltS).trans hkp.2)⟩
          case measure => simp [intOf]; omega
        · gi_wp2
          refine bodyPost_ret (results_none rfl _ _ _) rfl ?_
          exact ⟨⟨_, rfl⟩, .inr ⟨_, ⟨k + 1, by omega, rfl⟩, hJx3⟩⟩
    · obtain rfl : k = N := by omega
      gi_wp2
      go_end0
      exact ⟨⟨_, rfl⟩, .inl ⟨_, rfl, hJs⟩⟩
end Go.Proofs.Ytbhpipkaojlgfaa
