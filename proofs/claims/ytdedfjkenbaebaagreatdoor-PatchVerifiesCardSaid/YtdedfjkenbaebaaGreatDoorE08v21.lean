import Derived.RangeFuncBox
import Derived.RangeFuncLeaves
import Derived.RangeFuncNested
import Derived.RangeFuncWrites
import Derived.Shelf.Abstract
import Derived.WalkKit
import Derived.OwnWalk
import Derived.OwnWalkIn
import Derived.TacticsInMore
import Derived.LoopNIn
import Derived.LoopIn
import Derived.Maps.AppendAt
import Derived.Test.YtdedfjkenbaebaaGreatDoorE08v5
import Derived.Test.YtdedfjkenbaebaaGreatDoorE08v20
import Derived.Test.YtdedfjkenbaebaaGreatDoorE08v12
/- slices.Backward of bytes and of pairs: the iterators. -/
namespace Go.Proofs.YtdedfjkenbaebaaGreatDoor
open Go.RowKit Go.Shelf Go.Proofs.YtdedfjkenbaebaaGreatDoor.Plain01
attribute [local go_sem] Oper.semAt_some
set_option linter.unusedVariables false
set_option linter.unusedSimpArgs false

/-- The round j of a walk from the end. -/
def bk8 (l : List Int) (j : Nat) : Int × Int := (((l.length - 1 - j : Nat) : Int), l[l.length - 1 - j]?.getD 0)
def bk2 (l : List (Int × Int)) (j : Nat) : Int × Int × Int := (((l.length - 1 - j : Nat) : Int), l[l.length - 1 - j]?.getD (0, 0))
/-- What a round keeps: all that lay below N, but the block M. -/
def KpM (N M : Nat) (A B : World) : Prop := ∀ k, k < N → k ≠ M → B.heap[k]? = A.heap[k]?
theorem KpM.refl (N M : Nat) (A : World) : KpM N M A A := fun _ _ _ => rfl
theorem KpM.trans {N M : Nat} {A B C : World} (h : KpM N M A B) (k : KpM N M B C) : KpM N M A C := fun i hi hn => (k i hi hn).trans (h i hi hn)
theorem KpM.of_below {N M : Nat} {A B : World} (h : Below N A B) : KpM N M A B := fun i hi _ => h.block i hi
theorem KpM.put {N M : Nat} {w : World} (hN : N ≤ w.heap.size) (W : World) (l : Nat) (o o' : Obj) (hl : w.heap.size ≤ l) (_ : W.heap[l]? = some o) (_ : o.isCells = false) (_ : o.isWalk = false) : KpM N M W (W.putObj l o') := fun i hi _ => World.putObj_heap_other (by omega)
theorem KpM.cell {N M : Nat} {A B : World} (h : KpM N M A B) {p : Addr} {v : Value} (hc : A.cell? p = some v) (hN : p.block < N) (hM : p.block ≠ M) : B.cell? p = some v := by
  rw [← hc]
  unfold World.cell?
  rw [h _ hN hM]

set_option maxRecDepth 100000 in
set_option maxHeartbeats 2000000 in
theorem back8C_stops (n : Nat) (hn : 1 ≤ n) (Bs M : Nat) (a : Option Addr) (l : List Int) (cap : Nat) (w : World) (hB : w.heap[Bs]? = some (.cells #[.slice a l.length cap] 22 (0, 0))) (hBM : Bs ≠ M) (hb : BytesIn w a l cap) (hM : ∀ ad, 0 < l.length → a = some ad → ad.block ≠ M) (hL : l.length ≤ 1000000) :
    SeqStopsK Fence.wide n Tryz.prog 159 #[.pointer (some ⟨Bs, 0, none⟩)] (fun x : Int × Int => #[.int .i64 x.1, .int .u8 x.2]) (KpM w.heap.size M)
      (fun ys => ys = upto (bk8 l) l.length) (fun pre => ∃ k, k ≤ l.length ∧ pre = upto (bk8 l) k) l.length w := fun lp J Jx W hW hJ _ hY h0 => by
  have HBX := Lib.hid hb
  have hBl := (Array.getElem?_eq_some_iff.1 hB).1
  obtain ⟨L, hLe⟩ : ∃ L, L = l.length := ⟨_, rfl⟩
  have cS : ∀ X : World, KpM w.heap.size M w X → X.cell? ⟨Bs, 0, none⟩ = some (.slice a L cap) := fun X h => KpM.cell h (by rw [cell_of hB, hLe]; rfl) hBl hBM
  have cI : ∀ (X : World), KpM w.heap.size M w X → ∀ b o, a = some ⟨b, o, none⟩ → (∀ i, i < l.length → w.cell? ⟨b, o + i, none⟩ = some (.int .u8 (l[i]?.getD 0))) → ∀ i, i < L → X.cell? ⟨b, o + i, none⟩ = some (.int .u8 (l[i]?.getD 0)) := fun X h b o e hc i hi =>
    KpM.cell h (hc i (by omega)) (World.block_lt_of_cell? _ _ (hc i (by omega))) (show b ≠ M from hM ⟨b, o, none⟩ (by omega) e)
  have HL := Lib.hid hLe
  have hLb : L ≤ 1000000 := by omega
  rw [← hLe] at hY
  have hKW : KpM w.heap.size M w W := KpM.of_below hW
  have s0 := cS W hKW
  clear hB hLe hb hM hL
  refine callsIn_of_wp Tryz.func159 rfl trivial ?_ rfl
  simp only [Tryz.ntmps159, List.size_toArray, List.length_cons, List.length_nil, Nat.reduceAdd, Nat.reduceSub, Array.replicate_succ, Array.replicate_zero, List.push_toArray, List.append_toArray, List.nil_append, List.cons_append]
  gi_wp2
  gi_loopw [3] (fun i wr => ∃ k : Nat, k ≤ L ∧ ∃ p : Int, i = .int .i64 p ∧ Hid (p = (L : Int) - 1 - k) ∧ J (upto (bk8 l) k) wr ∧ KpM w.heap.size M w wr) (fun i _ => (intOf i + 1).toNat)
  case atStart => exact ⟨0, Nat.zero_le _, (L : Int) - 1, rfl, Lib.hid (by omega), h0, hKW⟩
  case round =>
    clear s0
    obtain ⟨k, hk, p, rfl, hp, hJs, hK⟩ := hrel
    by_cases hlt : k < L
    · obtain ⟨m, rfl⟩ : ∃ m : Nat, p = m := ⟨p.toNat, by have := hp.out; omega⟩
      have hmk : m = L - 1 - k := by have := hp.out; omega
      have hmL : m < L := by omega
      obtain ⟨b, o, rfl, hc⟩ := HBX.out.cells (by rw [← HL.out]; omega)
      have c1 := cI wr hK b o rfl hc m hmL
      have s1 := cS wr hK
      have hx : bk8 l k = ((m : Int), l[m]?.getD 0) := by unfold bk8; rw [← HL.out, ← hmk]
      have hsn := upto_succ (bk8 l) k
      rw [hx] at hsn
      have HSN := Lib.hid hsn
      obtain ⟨fn, tmps, assign, body, hy, hR⟩ := hY (upto (bk8 l) k) ((m : Int), l[m]?.getD 0) wr hJs (by rw [upto_length]; exact hlt)
      rw [← hsn] at hR
      dsimp only at hy
      generalize l[m]?.getD 0 = d at c1 hy
      clear hc hsn hx hmk hY cI
      gi_wp2
      refine hR.mono ?_
      rintro e W3 (⟨rfl, hJ3, hk3⟩ | ⟨rfl, hJx3⟩)
      · gi_wp2
        go_roundw
        case rel => exact ⟨k + 1, by omega, (m : Int) - 1, by first | rfl | go_num, Lib.hid (by have := hp.out; omega), hJ3, hK.trans hk3⟩
        case measure => simp [intOf] <;> omega
      · gi_wp2
        refine bodyPost_ret (results_none rfl _ _ _) rfl ?_
        exact ⟨⟨_, rfl⟩, .inr ⟨_, ⟨k + 1, by rw [← HL.out]; omega, rfl⟩, hJx3⟩⟩
    · obtain rfl : k = L := by omega
      have hpn : p = -1 := by have := hp.out; omega
      subst hpn
      have hfin : Hid (∃ ys, ys = upto (bk8 l) l.length ∧ J ys wr) := Lib.hid ⟨_, rfl, by rw [← HL.out]; exact hJs⟩
      gi_wp2
      go_end0
      exact ⟨⟨_, rfl⟩, .inl hfin.out⟩

theorem backward8_any (a : Option Addr) (L cap : Nat) (w : World) : Calls Tryz.prog 149 #[.slice a L cap] w fun e w' =>
    e = .returned (.func (.func 159) #[] #[.pointer (some ⟨w.heap.size, 0, none⟩)]) ∧ w' = w.alloc (.cells #[.slice a L cap] 22) := by
  go_enter Tryz.func149, Tryz.ntmps149
  go_wp2
  go_ret
  exact ⟨rfl, rfl⟩
set_option maxRecDepth 100000 in
set_option maxHeartbeats 2000000 in
theorem back2C_stops (n : Nat) (hn : 1 ≤ n) (Bs M : Nat) (a : Option Addr) (l : List (Int × Int)) (cap : Nat) (w : World) (hB : w.heap[Bs]? = some (.cells #[.slice a l.length cap] 183 (0, 0))) (hBM : Bs ≠ M) (hb : PairsIn w a l cap) (hM : ∀ ad, 0 < l.length → a = some ad → ad.block ≠ M) (hL : l.length ≤ 1000000) :
    SeqStopsK Fence.wide n Tryz.prog 160 #[.pointer (some ⟨Bs, 0, none⟩)] (fun x : Int × Int × Int => #[.int .i64 x.1, k2 x.2]) (KpM w.heap.size M)
      (fun ys => ys = upto (bk2 l) l.length) (fun pre => ∃ k, k ≤ l.length ∧ pre = upto (bk2 l) k) l.length w := fun lp J Jx W hW hJ _ hY h0 => by
  have HBX := Lib.hid hb
  have hBl := (Array.getElem?_eq_some_iff.1 hB).1
  obtain ⟨L, hLe⟩ : ∃ L, L = l.length := ⟨_, rfl⟩
  have cS : ∀ X : World, KpM w.heap.size M w X → X.cell? ⟨Bs, 0, none⟩ = some (.slice a L cap) := fun X h => KpM.cell h (by rw [cell_of hB, hLe]; rfl) hBl hBM
  have cI : ∀ (X : World), KpM w.heap.size M w X → ∀ b o, a = some ⟨b, o, none⟩ → (∀ i p, l[i]? = some p → w.cell? ⟨b, o + i * 2, none⟩ = some (.int .i64 p.1) ∧ w.cell? ⟨b, o + i * 2 + 1, none⟩ = some (.int .i64 p.2)) → ∀ i p, l[i]? = some p → X.cell? ⟨b, o + i * 2, none⟩ = some (.int .i64 p.1) ∧ X.cell? ⟨b, o + i * 2 + 1, none⟩ = some (.int .i64 p.2) := fun X h b o e hc i p hi =>
    have hlen : 0 < l.length := by have := (List.getElem?_eq_some_iff.1 hi).1; omega
    ⟨KpM.cell h (hc i p hi).1 (World.block_lt_of_cell? _ _ (hc i p hi).1) (show b ≠ M from hM ⟨b, o, none⟩ hlen e), KpM.cell h (hc i p hi).2 (World.block_lt_of_cell? _ _ (hc i p hi).2) (show b ≠ M from hM ⟨b, o, none⟩ hlen e)⟩
  have HL := Lib.hid hLe
  have hLb : L ≤ 1000000 := by omega
  rw [← hLe] at hY
  have hKW : KpM w.heap.size M w W := KpM.of_below hW
  have s0 := cS W hKW
  clear hB hLe hb hM hL
  refine callsIn_of_wp Tryz.func160 rfl trivial ?_ rfl
  simp only [Tryz.ntmps160, List.size_toArray, List.length_cons, List.length_nil, Nat.reduceAdd, Nat.reduceSub, Array.replicate_succ, Array.replicate_zero, List.push_toArray, List.append_toArray, List.nil_append, List.cons_append]
  gi_wp2
  gi_loopw [3] (fun i wr => ∃ k : Nat, k ≤ L ∧ ∃ p : Int, i = .int .i64 p ∧ Hid (p = (L : Int) - 1 - k) ∧ J (upto (bk2 l) k) wr ∧ KpM w.heap.size M w wr) (fun i _ => (intOf i + 1).toNat)
  case atStart => exact ⟨0, Nat.zero_le _, (L : Int) - 1, rfl, Lib.hid (by omega), h0, hKW⟩
  case round =>
    clear s0
    obtain ⟨k, hk, p, rfl, hp, hJs, hK⟩ := hrel
    by_cases hlt : k < L
    · obtain ⟨m, rfl⟩ : ∃ m : Nat, p = m := ⟨p.toNat, by have := hp.out; omega⟩
      have hmk : m = L - 1 - k := by have := hp.out; omega
      have hmL : m < L := by omega
      obtain ⟨b, o, rfl, hc⟩ := HBX.out.cells (by rw [← HL.out]; omega)
      obtain ⟨pr, hpr⟩ : ∃ pr, l[m]? = some pr := ⟨_, List.getElem?_eq_getElem (by rw [← HL.out]; exact hmL)⟩
      obtain ⟨c1, c1'⟩ := cI wr hK b o rfl hc m pr hpr
      have hgd : l[m]?.getD (0, 0) = pr := by rw [hpr]; rfl
      have s1 := cS wr hK
      have hx : bk2 l k = ((m : Int), l[m]?.getD (0, 0)) := by unfold bk2; rw [← HL.out, ← hmk]
      rw [hgd] at hx
      have hsn := upto_succ (bk2 l) k
      rw [hx] at hsn
      have HSN := Lib.hid hsn
      obtain ⟨d0, d1⟩ := pr
      obtain ⟨fn, tmps, assign, body, hy, hR⟩ := hY (upto (bk2 l) k) ((m : Int), (d0, d1)) wr hJs (by rw [upto_length]; exact hlt)
      rw [← hsn] at hR
      dsimp only [k2] at hy c1 c1'
      clear hc hsn hx hmk hY cI hgd hpr
      gi_wp2
      refine hR.mono ?_
      rintro e W3 (⟨rfl, hJ3, hk3⟩ | ⟨rfl, hJx3⟩)
      · gi_wp2
        go_roundw
        case rel => exact ⟨k + 1, by omega, (m : Int) - 1, by first | rfl | go_num, Lib.hid (by have := hp.out; omega), hJ3, hK.trans hk3⟩
        case measure => simp [intOf] <;> omega
      · gi_wp2
        refine bodyPost_ret (results_none rfl _ _ _) rfl ?_
        exact ⟨⟨_, rfl⟩, .inr ⟨_, ⟨k + 1, by rw [← HL.out]; omega, rfl⟩, hJx3⟩⟩
    · obtain rfl : k = L := by omega
      have hpn : p = -1 := by have := hp.out; omega
      subst hpn
      have hfin : Hid (∃ ys, ys = upto (bk2 l) l.length ∧ J ys wr) := Lib.hid ⟨_, rfl, by rw [← HL.out]; exact hJs⟩
      gi_wp2
      go_end0
      exact ⟨⟨_, rfl⟩, .inl hfin.out⟩

theorem backward2_any (a : Option Addr) (L cap : Nat) (w : World) : Calls Tryz.prog 151 #[.slice a L cap] w fun e w' =>
    e = .returned (.func (.func 160) #[] #[.pointer (some ⟨w.heap.size, 0, none⟩)]) ∧ w' = w.alloc (.cells #[.slice a L cap] 183) := by
  go_enter Tryz.func151, Tryz.ntmps151
  go_wp2
  go_ret
  exact ⟨rfl, rfl⟩
end Go.Proofs.YtdedfjkenbaebaaGreatDoor

/- firsts of package patch. -/
namespace Go.Proofs.YtdedfjkenbaebaaGreatDoor
open Go.RowKit Go.Shelf Go.Proofs.YtdedfjkenbaebaaGreatDoor.Plain01
attribute [local go_sem] Oper.semAt_some
set_option linter.unusedVariables false
set_option linter.unusedSimpArgs false

/-- The last number that came with an item. -/
def lastP {K : Type} [DecidableEq K] (pre : List (Int × K)) (y : K) : Option Int := pre.foldl (fun r x => if x.2 = y then some x.1 else r) none
theorem lastP_snoc {K : Type} [DecidableEq K] (pre : List (Int × K)) (x : Int × K) (y : K) : lastP (pre ++ [x]) y = if y = x.2 then some x.1 else lastP pre y := by
  unfold lastP
  rw [List.foldl_append]
  simp only [List.foldl_cons, List.foldl_nil]
  by_cases h : x.2 = y
  · rw [if_pos h, if_pos h.symm]
  · rw [if_neg h, if_neg (Ne.symm h)]
/-- What a map from items to their smallest places holds, from offset i on. -/
def restF {K : Type} [DecidableEq K] (l : List K) (i : Nat) (y : K) : Option Int := if fidx (l.drop i) y = -1 then none else some (i + fidx (l.drop i) y)
theorem restF_step {K : Type} [DecidableEq K] (l : List K) (i : Nat) (z : K) (h : l[i]? = some z) (y : K) : restF l i y = if y = z then some (i : Int) else restF l (i + 1) y := by
  obtain ⟨hi, hz⟩ := List.getElem?_eq_some_iff.1 h
  unfold restF
  rw [List.drop_eq_getElem_cons hi, hz]
  have hg := fidx_ge (l.drop (i + 1)) y
  by_cases e : z = y
  · have e1 : fidx (z :: l.drop (i + 1)) y = 0 := by simp [fidx, e]
    rw [e1, if_neg (by omega), if_pos e.symm]; simp
  · rw [if_neg (Ne.symm e)]
    by_cases hn : fidx (l.drop (i + 1)) y = -1
    · have e1 : fidx (z :: l.drop (i + 1)) y = -1 := by simp [fidx, e, hn]
      rw [e1, if_pos rfl, if_pos hn]
    · have e1 : fidx (z :: l.drop (i + 1)) y = fidx (l.drop (i + 1)) y + 1 := by simp [fidx, e, hn]
      rw [e1, if_neg (by omega), if_neg hn]
      simp only [Option.some.injEq]
      omega
theorem restF_0 {K : Type} [DecidableEq K] (l : List K) (y : K) : (restF l 0 y).getD (-1) = fidx l y := by
  unfold restF
  rw [List.drop_zero]
  split
  · rename_i h; rw [h]; rfl
  · simp
theorem lastP_bk8 (l : List Int) : ∀ k, k ≤ l.length → ∀ y, lastP (upto (bk8 l) k) y = restF l (l.length - k) y := by
  intro k
  induction k with
  | zero => intro _ y; simp [upto, lastP, restF, fidx]
  | succ k ih =>
    intro hk y
    rw [upto_succ, lastP_snoc, ih (by omega)]
    obtain ⟨z, hz⟩ : ∃ z, l[l.length - (k + 1)]? = some z := ⟨_, List.getElem?_eq_getElem (by omega)⟩
    have hb : bk8 l k = (((l.length - (k + 1) : Nat) : Int), z) := by unfold bk8; rw [show l.length - 1 - k = l.length - (k + 1) by omega, hz]; rfl
    rw [hb, restF_step l _ z hz, show l.length - (k + 1) + 1 = l.length - k by omega]
theorem lastP_bk2 (l : List (Int × Int)) : ∀ k, k ≤ l.length → ∀ y, lastP (upto (bk2 l) k) y = restF l (l.length - k) y := by
  intro k
  induction k with
  | zero => intro _ y; simp [upto, lastP, restF, fidx]
  | succ k ih =>
    intro hk y
    rw [upto_succ, lastP_snoc, ih (by omega)]
    obtain ⟨z, hz⟩ : ∃ z, l[l.length - (k + 1)]? = some z := ⟨_, List.getElem?_eq_getElem (by omega)⟩
    have hb : bk2 l k = (((l.length - (k + 1) : Nat) : Int), z) := by unfold bk2; rw [show l.length - 1 - k = l.length - (k + 1) by omega, hz]; rfl
    rw [hb, restF_step l _ z hz, show l.length - (k + 1) + 1 = l.length - k by omega]

theorem set_map {w W : World} {M : Nat} {o o' : Obj} (h : W.heap[M]? = some o) (hb : Below w.heap.size w W) (hM : w.heap.size ≤ M) :
    ({ W with heap := W.heap.setIfInBounds M o' } : World).heap[M]? = some o' ∧ (∀ k, k ≠ M → ({ W with heap := W.heap.setIfInBounds M o' } : World).heap[k]? = W.heap[k]?) ∧ Below w.heap.size w { W with heap := W.heap.setIfInBounds M o' } ∧ ({ W with heap := W.heap.setIfInBounds M o' } : World).heap.size = W.heap.size := by
  have hlt := (Array.getElem?_eq_some_iff.1 h).1
  have h2 : ∀ k, k ≠ M → ({ W with heap := W.heap.setIfInBounds M o' } : World).heap[k]? = W.heap[k]? := fun k hk => by
    show (W.heap.setIfInBounds M o')[k]? = _
    rw [Array.getElem?_setIfInBounds, if_neg (Ne.symm hk)]
  refine ⟨?_, h2, ⟨hb.os, hb.tape, hb.output, by simpa using hb.size, fun k hk => (h2 k (by omega)).trans (hb.block k hk)⟩, by simp⟩
  show (W.heap.setIfInBounds M o')[M]? = _
  rw [Array.getElem?_setIfInBounds, if_pos rfl, if_pos hlt]

/-- A new slice of numbers. -/
def IsInts (xs : List Int) : Value → World → Prop := fun v W => ∃ g, v = .slice (some ⟨g, 0, none⟩) xs.length xs.length ∧ IntsIn W (some ⟨g, 0, none⟩) xs xs.length
theorem stable_ints (xs : List Int) : Stable (fun W W' => Below W.heap.size W W') (IsInts xs) := fun v w w' ⟨g, h1, h2⟩ hE => ⟨g, h1, h2.below hE⟩

theorem ints_put {X : World} {D : Nat} {a : Option Addr} {l : List Int} {cap : Nat} (h : IntsIn X a l cap) (hK : X.heap[D]? = some (.deferred (some []))) : IntsIn (X.putObj D (.deferred none)) a l cap :=
  ⟨h.len, h.capb, fun hp => by
    obtain ⟨b, o, e, hc⟩ := h.cells hp
    exact ⟨b, o, e, fun i hi => cell_kept (hc i hi) (grownBy_putObj' X D (.deferred none)) (fun r e => by cases e; exact ⟨_, hK, rfl⟩)⟩⟩

/-- Two new rows. -/
def FirstsPost (p q : List Int) (w : World) (e : Ending) (w' : World) : Prop :=
  ∃ g1 g2, e = .returned (.tuple #[.slice (some ⟨g1, 0, none⟩) p.length p.length, .slice (some ⟨g2, 0, none⟩) q.length q.length]) ∧ IntsIn w' (some ⟨g1, 0, none⟩) p p.length ∧ IntsIn w' (some ⟨g2, 0, none⟩) q q.length ∧ Below w.heap.size w w'

set_option maxRecDepth 100000 in
set_option maxHeartbeats 4000000 in
theorem firsts8_any (a b : Option Addr) (l x : List Int) (cap capx : Nat) (w : World) (hl : BytesIn w a l cap) (hx : BytesIn w b x capx) (hL : l.length ≤ 1000000) (hX : x.length ≤ 1000000) :
    Calls Tryz.prog 138 #[.slice a l.length cap, .slice b x.length capx] w (FirstsPost (l.map (fidx l)) (x.map (fidx l)) w) := by
  have hlw := BytesIn.below hl (w' := (((w.alloc (.map #[] 0)).alloc (.cells #[.map (some w.heap.size)] 193)).alloc (.cells #[.slice a l.length cap] 22))) ((((Below.refl _ w).alloc (Nat.le_refl _) _).alloc (by simp) _).alloc (by simp; omega) _)
  have hMne : ∀ ad, 0 < l.length → a = some ad → ad.block ≠ w.heap.size := fun ad hp had => by
    obtain ⟨b0, o0, e0, hc⟩ := hl.cells hp
    rw [e0] at had
    cases had
    have := World.block_lt_of_cell? _ _ (hc 0 hp)
    simp only at this ⊢
    omega
  refine (callsIn_wide (n := 6)).1 ?_
  have hmm := @run_makeMap Tryz.prog
  obtain ⟨W0, hW0⟩ : ∃ W0, ((w.alloc (.map #[] 0)).alloc (.cells #[.map (some w.heap.size)] 193)).alloc (.cells #[.slice a l.length cap] 22) = W0 := ⟨_, rfl⟩
  rw [hW0] at hlw
  have hsz : W0.heap.size = w.heap.size + 3 := by rw [← hW0]; simp
  have hbM : W0.heap[w.heap.size]? = some (mapO k8 [] 0) := by rw [← hW0]; exact heap_old (heap_old (heap_new w _ rfl) _) _
  have hbB : W0.heap[w.heap.size + 1]? = some (.cells #[.map (some w.heap.size)] 193 (0, 0)) := by rw [← hW0]; exact heap_old (heap_new _ _ (by simp)) _
  have hbS : W0.heap[w.heap.size + 1 + 1]? = some (.cells #[.slice a l.length cap] 22 (0, 0)) := by rw [← hW0]; exact heap_new _ _ (by simp)
  have hBW : Below w.heap.size w W0 := by rw [← hW0]; exact (((Below.refl _ w).alloc (Nat.le_refl _) _).alloc (by simp) _).alloc (by simp; omega) _
  have hst := back8C_stops 5 (by omega) (w.heap.size + 1 + 1) w.heap.size a l cap W0 hbS (by omega) hlw hMne hL
  have HHX := Lib.hid hx
  have HHL := Lib.hid hl
  have HW0 := Lib.hid hW0
  clear hW0 hl hx hlw hMne hbS
  refine callsIn_of_wp_marks Tryz.func138 rfl trivial ?_ rfl
  simp only [Tryz.ntmps138, List.size_toArray, List.length_cons, List.length_nil, Nat.reduceAdd, Nat.reduceSub, Array.replicate_succ, Array.replicate_zero, List.push_toArray, List.append_toArray, List.nil_append, List.cons_append]
  gi_wp2_with (refine ⟨trivial, ?_⟩; gi_at_call 149; refine (callsIn_wide.2 (backward8_any a l.length cap _)).mono ?_; rintro e w' ⟨rfl, rfl⟩)
  rw [HW0.out]
  clear hmm
  refine wpIn_rangeFunc_ownG (n := 6) rfl (by omega) (gf := 159) (lb := #[.pointer (some ⟨w.heap.size + 1 + 1, 0, none⟩)]) rfl trivial (enters_of Tryz.func159 (by kernel_rfl) rfl)
    hst KpM.trans (KpM.put (Nat.le_refl _)) (Below.refl _ _) (fun _ => rfl)
    (fun pre W => (∃ es clk, W.heap[w.heap.size]? = some (mapO k8 es clk) ∧ ∀ y, getE es y = lastP pre y) ∧ W.heap[w.heap.size + 1]? = some (.cells #[.map (some w.heap.size)] 193 (0, 0)) ∧ Below w.heap.size w W ∧ w.heap.size + 3 ≤ W.heap.size)
    (fun _ _ _ => False)
    (fun s A B row hs hg hr => by
      obtain ⟨⟨es, clk, h1, h2⟩, h3, h4, h5⟩ := hs
      have hn : ∀ k, k < w.heap.size + 3 → some k ≠ row := fun k hk e => by have := (hr k e.symm).1; omega
      exact ⟨⟨es, clk, (hg.block _ (by omega) (hn _ (by omega))).trans h1, h2⟩, (hg.block _ (by omega) (hn _ (by omega))).trans h3, h4.grown hg h4.size (fun k e => by have := (hr k e).1; omega), by have := hg.size; omega⟩)
    (fun _ _ _ _ _ hs _ _ => hs)
    ⟨⟨[], 0, hbM, fun y => rfl⟩, hbB, hBW, by omega⟩
    (fun y => { tmps := #[.slice a l.length cap, .slice b x.length capx, undef, undef, .slice none 0 0, .slice none 0 0, .pointer (some ⟨w.heap.size + 1, 0, none⟩), .int .i64 y.1, .int .u8 y.2, .map (some w.heap.size), .slice a l.length cap, .func (.func 159) #[] #[.pointer (some ⟨w.heap.size + 1 + 1, 0, none⟩)], .int .i64 y.1, .int .u8 y.2, undef, undef, undef, undef, undef, undef, undef, undef, undef], defers := [] })
    ?assign ?body ?done ?stop
  case assign =>
    intro lp y W K hK
    gi_wp2
    exact hK
  case body =>
    rintro lp pre y W ⟨⟨es, clk, h1, h2⟩, h3, h4, h5⟩ hlt
    have c1 : W.cell? ⟨w.heap.size + 1, 0, none⟩ = some (.map (some w.heap.size)) := by rw [cell_of h3]; rfl
    have hup := update_any key8 W w.heap.size es clk h1 y.2 y.1
    obtain ⟨e1, e2, e3, e4⟩ := set_map (o' := mapO k8 (updE es clk y.2 y.1) (clkE es clk y.2)) h1 h4 (Nat.le_refl _)
    have HE := Lib.hid (And.intro e1 (And.intro e2 (And.intro e3 e4)))
    obtain ⟨W', hW'⟩ : ∃ W', ({ W with heap := W.heap.setIfInBounds w.heap.size (mapO k8 (updE es clk y.2 y.1) (clkE es clk y.2)) } : World) = W' := ⟨_, rfl⟩
    rw [hW'] at hup HE
    clear hW' e1 e2 e3 e4
    gi_wp2
    obtain ⟨e1, e2, e3, e4⟩ := HE.out
    exact ⟨⟨by omega, fun k o hk ho _ => (e2 k (by omega)).trans ho⟩, fun k _ hn => e2 k hn, ⟨_, _, e1, fun z => by rw [getE_upd, h2, lastP_snoc]⟩, (e2 _ (by omega)).trans h3, e3, by omega⟩
  case done =>
    rintro D ys W hD rfl ⟨⟨es, clk, h1, h2⟩, h3, h4, h5⟩ hK
    have h2' : ∀ y, yieldE es y = fidx l y := fun y => by
      unfold yieldE
      rw [h2, lastP_bk8 l l.length (Nat.le_refl _), Nat.sub_self, restF_0]
    have hBl : Below w.heap.size w W := h4
    have HLK : Hid (∀ (c : Option Addr) (z : List Int) (zc : Nat), BytesIn w c z zc → z.length ≤ 1000000 → ∀ X, Below W.heap.size W X → Calls Tryz.prog 150 #[.map (some w.heap.size), .slice c z.length zc] X fun e X' => ∃ v, e = .returned v ∧ IsInts (z.map (fidx l)) v X' ∧ Below X.heap.size X X') := Lib.hid fun c z zc hz hzl X hC => by
      refine (lookUp8_any w.heap.size clk es c z zc X (heap_below h1 hC) ((hz.below hBl).below hC) hzl).mono ?_
      rintro e X' ⟨g, rfl, hg, hrow, hb⟩
      rw [show z.map (yieldE es) = z.map (fidx l) from List.map_congr_left (fun y _ => h2' y)] at hrow ⊢
      exact ⟨_, rfl, ⟨g, rfl, ints_row hrow (by simp; exact hzl)⟩, hb⟩
    have HCB : Hid (∀ X, Below W.heap.size W X → X.cell? ⟨w.heap.size + 1, 0, none⟩ = some (.map (some w.heap.size))) := Lib.hid fun X hX => by rw [cell_of (heap_below h3 hX)]; rfl
    have HD := Lib.hid (And.intro hD hK)
    have HBL := Lib.hid hBl
    clear h1 h2 h3 h4 h5 h2' hst hbM hbB hBW hD hK hBl
    gi_wp2
    refine wpIn_wide.2 ?_
    refine wp_region_loose
      [IsV (.map (some w.heap.size)), IsV (.slice a l.length cap), IsInts (l.map (fidx l)), IsV (.map (some w.heap.size)), IsV (.slice b x.length capx), IsInts (x.map (fidx l)), IsInts (l.map (fidx l)), IsInts (x.map (fidx l))]
      [⟨17, [], [6]⟩, ⟨18, [], [0]⟩, ⟨19, [(0, 17), (1, 18)], []⟩, ⟨20, [], [6]⟩, ⟨21, [], [1]⟩, ⟨22, [(3, 20), (4, 21)], []⟩, ⟨4, [(2, 19)], []⟩, ⟨5, [(5, 22)], []⟩]
      (fun X => Below W.heap.size W X) (fun X X' => Below X.heap.size X X') (by kernel_rfl) (by kernel_rfl) rfl rfl (Below.refl _ W).drew ?_
      ⟨?_, ?_, ?_, ?_, ?_, ?_, ?_, ?_, trivial⟩ ?_
    · repeat (first | (intro _ h; cases h; done) | refine List.forall_mem_cons.2 ⟨stable_V _ _, ?_⟩ | refine List.forall_mem_cons.2 ⟨stable_ints _, ?_⟩)
    · intro A W hC hd hx
      have hk : ∀ v, A.eval (.const v) = v := fun _ => rfl
      have hy0 : A.eval (.tmp 6) = .pointer (some ⟨w.heap.size + 1, 0, none⟩) := hx 6 (by simp)
      have c1 := HCB.out W hC
      clear hd
      generalize A.eval = ρ at hk hy0 ⊢
      simp [go_sem, looseUpon, factOf, hk, hy0, c1]
      exact ⟨hC, Below.refl _ _⟩
    · intro A W hC hd hx
      have hk : ∀ v, A.eval (.const v) = v := fun _ => rfl
      have hy0 : A.eval (.tmp 0) = .slice a l.length cap := hx 0 (by simp)
      clear hd
      generalize A.eval = ρ at hk hy0 ⊢
      simp [go_sem, looseUpon, factOf, hk, hy0]
      exact ⟨hC, Below.refl _ _⟩
    · intro A W hC hd hx
      simp [factOf] at hd
      refine ⟨fun g hg => (by cases hg), ?_⟩
      refine loose_call rfl Tryz.func150 (by kernel_rfl) (by kernel_rfl) ?_
      simp only [List.map_toArray, List.map_cons, List.map_nil, hd]
      refine (HLK.out a l cap HHL.out hL W hC).mono ?_
      rintro e' W' ⟨v, rfl, h3, h4⟩
      exact ⟨_, rfl, h3, hC.trans (h4.mono hC.size), h4⟩
    · intro A W hC hd hx
      have hk : ∀ v, A.eval (.const v) = v := fun _ => rfl
      have hy0 : A.eval (.tmp 6) = .pointer (some ⟨w.heap.size + 1, 0, none⟩) := hx 6 (by simp)
      have c1 := HCB.out W hC
      clear hd
      generalize A.eval = ρ at hk hy0 ⊢
      simp [go_sem, looseUpon, factOf, hk, hy0, c1]
      exact ⟨hC, Below.refl _ _⟩
    · intro A W hC hd hx
      have hk : ∀ v, A.eval (.const v) = v := fun _ => rfl
      have hy0 : A.eval (.tmp 1) = .slice b x.length capx := hx 1 (by simp)
      clear hd
      generalize A.eval = ρ at hk hy0 ⊢
      simp [go_sem, looseUpon, factOf, hk, hy0]
      exact ⟨hC, Below.refl _ _⟩
    · intro A W hC hd hx
      simp [factOf] at hd
      refine ⟨fun g hg => (by cases hg), ?_⟩
      refine loose_call rfl Tryz.func150 (by kernel_rfl) (by kernel_rfl) ?_
      simp only [List.map_toArray, List.map_cons, List.map_nil, hd]
      refine (HLK.out b x capx HHX.out hX W hC).mono ?_
      rintro e' W' ⟨v, rfl, h3, h4⟩
      exact ⟨_, rfl, h3, hC.trans (h4.mono hC.size), h4⟩
    · intro A W hC hd hx
      simp [factOf] at hd
      refine ⟨fun g hg => (by cases hg), ?_⟩
      generalize A.eval = ρ at hd ⊢
      simp [go_sem, looseUpon, factOf]
      exact ⟨hd, hC, Below.refl _ _⟩
    · intro A W hC hd hx
      simp [factOf] at hd
      refine ⟨fun g hg => (by cases hg), ?_⟩
      generalize A.eval = ρ at hd ⊢
      simp [go_sem, looseUpon, factOf]
      exact ⟨hd, hC, Below.refl _ _⟩
    · intro X hC
      simp only [ends]
      rintro _ rfl _ rfl _ ⟨g1, rfl, i1⟩ _ rfl _ rfl _ ⟨g2, rfl, i2⟩ _ ⟨g3, rfl, i3⟩ _ ⟨g4, rfl, i4⟩
      simp only [putAll, List.zip_cons_cons, List.zip_nil_left, List.foldl_cons, List.foldl_nil, Act.put, List.setIfInBounds_toArray, List.set_cons_succ, List.set_cons_zero]
      have hK2 : X.heap[D]? = some (.deferred (some [])) := heap_below HD.out.2 hC
      gi_wp2
      refine ⟨by simp, .inl ⟨_, _, rfl, run_takeDeferred hK2, ?_⟩⟩
      refine ⟨.tuple #[.slice (some ⟨g3, 0, none⟩) (l.map (fidx l)).length (l.map (fidx l)).length, .slice (some ⟨g4, 0, none⟩) (x.map (fidx l)).length (x.map (fidx l)).length], by simp [results, Tryz.f138, go_sem], g3, g4, rfl, ints_put i3 hK2, ints_put i4 hK2, ?_⟩
      exact ((HBL.out).trans (hC.mono HBL.out.size)).trans (belowK_b (w := w) (Nat.le_refl _) X D _ _ (by have := HD.out.1; omega) hK2 rfl rfl)
  case stop =>
    rintro D c pre W _ _ h _
    exact h.elim
set_option maxRecDepth 100000 in
set_option maxHeartbeats 4000000 in
theorem firsts2_any (a b : Option Addr) (l x : List (Int × Int)) (cap capx : Nat) (w : World) (hl : PairsIn w a l cap) (hx : PairsIn w b x capx) (hL : l.length ≤ 1000000) (hX : x.length ≤ 1000000) :
    Calls Tryz.prog 139 #[.slice a l.length cap, .slice b x.length capx] w (FirstsPost (l.map (fidx l)) (x.map (fidx l)) w) := by
  have hlw := PairsIn.below hl (w' := (((w.alloc (.map #[] 0)).alloc (.cells #[.map (some w.heap.size)] 198)).alloc (.cells #[.slice a l.length cap] 183))) ((((Below.refl _ w).alloc (Nat.le_refl _) _).alloc (by simp) _).alloc (by simp; omega) _)
  have hMne : ∀ ad, 0 < l.length → a = some ad → ad.block ≠ w.heap.size := fun ad hp had => by
    obtain ⟨b0, o0, e0, hc⟩ := hl.cells hp
    rw [e0] at had
    cases had
    have := World.block_lt_of_cell? _ _ (hc 0 _ (List.getElem?_eq_getElem hp)).1
    simp only at this ⊢
    omega
  refine (callsIn_wide (n := 6)).1 ?_
  have hmm := @run_makeMap Tryz.prog
  obtain ⟨W0, hW0⟩ : ∃ W0, ((w.alloc (.map #[] 0)).alloc (.cells #[.map (some w.heap.size)] 198)).alloc (.cells #[.slice a l.length cap] 183) = W0 := ⟨_, rfl⟩
  rw [hW0] at hlw
  have hsz : W0.heap.size = w.heap.size + 3 := by rw [← hW0]; simp
  have hbM : W0.heap[w.heap.size]? = some (mapO k2 [] 0) := by rw [← hW0]; exact heap_old (heap_old (heap_new w _ rfl) _) _
  have hbB : W0.heap[w.heap.size + 1]? = some (.cells #[.map (some w.heap.size)] 198 (0, 0)) := by rw [← hW0]; exact heap_old (heap_new _ _ (by simp)) _
  have hbS : W0.heap[w.heap.size + 1 + 1]? = some (.cells #[.slice a l.length cap] 183 (0, 0)) := by rw [← hW0]; exact heap_new _ _ (by simp)
  have hBW : Below w.heap.size w W0 := by rw [← hW0]; exact (((Below.refl _ w).alloc (Nat.le_refl _) _).alloc (by simp) _).alloc (by simp; omega) _
  have hst := back2C_stops 5 (by omega) (w.heap.size + 1 + 1) w.heap.size a l cap W0 hbS (by omega) hlw hMne hL
  have HHX := Lib.hid hx
  have HHL := Lib.hid hl
  have HW0 := Lib.hid hW0
  clear hW0 hl hx hlw hMne hbS
  refine callsIn_of_wp_marks Tryz.func139 rfl trivial ?_ rfl
  simp only [Tryz.ntmps139, List.size_toArray, List.length_cons, List.length_nil, Nat.reduceAdd, Nat.reduceSub, Array.replicate_succ, Array.replicate_zero, List.push_toArray, List.append_toArray, List.nil_append, List.cons_append]
  gi_wp2_with (refine ⟨trivial, ?_⟩; gi_at_call 151; refine (callsIn_wide.2 (backward2_any a l.length cap _)).mono ?_; rintro e w' ⟨rfl, rfl⟩)
  rw [HW0.out]
  clear hmm
  refine wpIn_rangeFunc_ownH (n := 6) rfl (by omega) (gf := 160) (lb := #[.pointer (some ⟨w.heap.size + 1 + 1, 0, none⟩)]) rfl trivial (enters_of Tryz.func160 (by kernel_rfl) rfl)
    hst KpM.trans (KpM.put (Nat.le_refl _)) (Below.refl _ _) (fun _ => rfl)
    (fun pre W => (∃ es clk, W.heap[w.heap.size]? = some (mapO k2 es clk) ∧ ∀ y, getE es y = lastP pre y) ∧ W.heap[w.heap.size + 1]? = some (.cells #[.map (some w.heap.size)] 198 (0, 0)) ∧ Below w.heap.size w W ∧ w.heap.size + 3 ≤ W.heap.size)
    (fun _ _ _ => False)
    (fun s A B row hs hg hr => by
      obtain ⟨⟨es, clk, h1, h2⟩, h3, h4, h5⟩ := hs
      have hn : ∀ k, k < w.heap.size + 3 → some k ≠ row := fun k hk e => by have := (hr k e.symm).1; omega
      exact ⟨⟨es, clk, (hg.block _ (by omega) (hn _ (by omega))).trans h1, h2⟩, (hg.block _ (by omega) (hn _ (by omega))).trans h3, h4.grown hg h4.size (fun k e => by have := (hr k e).1; omega), by have := hg.size; omega⟩)
    (fun _ _ _ _ _ hs _ _ => hs)
    ⟨⟨[], 0, hbM, fun y => rfl⟩, hbB, hBW, by omega⟩
    (fun y a' W => ∃ Bx, w.heap.size + 3 ≤ Bx ∧ W.heap[Bx]? = some (.cells #[.int .i64 y.2.1, .int .i64 y.2.2] 182 (0, 0)) ∧ a' = { tmps := #[.slice a l.length cap, .slice b x.length capx, undef, undef, .slice none 0 0, .slice none 0 0, .pointer (some ⟨w.heap.size + 1, 0, none⟩), .int .i64 y.1, .pointer (some ⟨Bx, 0, none⟩), .map (some w.heap.size), .slice a l.length cap, .func (.func 160) #[] #[.pointer (some ⟨w.heap.size + 1 + 1, 0, none⟩)], .int .i64 y.1, k2 y.2, undef, undef, undef, undef, undef, undef, undef, undef, undef], defers := [] })
    (fun y a' _ X Y row hs hg hr => by obtain ⟨Bx, h1, h2, h3⟩ := hs; exact ⟨Bx, h1, cells_own Bx _ _ () X Y row h2 hg (fun r e => (hr r e).2), h3⟩)
    ?assign ?body ?done ?stop
  case assign =>
    rintro lp pre y W K ⟨⟨es, clk, h1, h2⟩, h3, h4, h5⟩ hK
    gi_wp2
    exact hK _ _ ((KeepsOthers.alloc _ _).from _) (KpM.of_below ((Below.refl _ W).alloc (by omega) _)) ⟨⟨es, clk, heap_old h1 _, h2⟩, heap_old h3 _, h4.alloc h4.size _, by simp; omega⟩ ⟨W.heap.size, by omega, World.alloc_heap_new W _, rfl⟩
  case body =>
    rintro lp pre y a' W hl ⟨r, hr⟩ ⟨⟨es, clk, h1, h2⟩, h3, h4, h5⟩ ⟨Bx, hBx, bX, rfl⟩ hlt
    have c1 : W.cell? ⟨w.heap.size + 1, 0, none⟩ = some (.map (some w.heap.size)) := by rw [cell_of h3]; rfl
    have x0 : W.cell? ⟨Bx, 0, none⟩ = some (.int .i64 y.2.1) := by rw [cell_of bX]; rfl
    have x1 : W.cell? ⟨Bx, 1, none⟩ = some (.int .i64 y.2.2) := by rw [cell_of bX]; rfl
    have hup := update_any key2 W w.heap.size es clk h1 y.2 y.1
    obtain ⟨e1, e2, e3, e4⟩ := set_map (o' := mapO k2 (updE es clk y.2 y.1) (clkE es clk y.2)) h1 h4 (Nat.le_refl _)
    have HE := Lib.hid (And.intro e1 (And.intro e2 (And.intro e3 e4)))
    obtain ⟨W', hW'⟩ : ∃ W', ({ W with heap := W.heap.setIfInBounds w.heap.size (mapO k2 (updE es clk y.2 y.1) (clkE es clk y.2)) } : World) = W' := ⟨_, rfl⟩
    rw [hW'] at hup HE
    clear hW' e1 e2 e3 e4
    gi_wp2
    obtain ⟨e1, e2, e3, e4⟩ := HE.out
    exact ⟨⟨by omega, fun k o hk ho _ => (e2 k (by omega)).trans ho⟩, fun k _ hn => e2 k hn, ⟨_, _, e1, fun z => by rw [getE_upd, h2, lastP_snoc]⟩, (e2 _ (by omega)).trans h3, e3, by omega⟩
  case done =>
    rintro D ys W hD rfl ⟨⟨es, clk, h1, h2⟩, h3, h4, h5⟩ hK
    have h2' : ∀ y, yieldE es y = fidx l y := fun y => by
      unfold yieldE
      rw [h2, lastP_bk2 l l.length (Nat.le_refl _), Nat.sub_self, restF_0]
    have hBl : Below w.heap.size w W := h4
    have HLK : Hid (∀ (c : Option Addr) (z : List (Int × Int)) (zc : Nat), PairsIn w c z zc → z.length ≤ 1000000 → ∀ X, Below W.heap.size W X → Calls Tryz.prog 152 #[.map (some w.heap.size), .slice c z.length zc] X fun e X' => ∃ v, e = .returned v ∧ IsInts (z.map (fidx l)) v X' ∧ Below X.heap.size X X') := Lib.hid fun c z zc hz hzl X hC => by
      refine (lookUp2_any w.heap.size clk es c z zc X (heap_below h1 hC) ((hz.below hBl).below hC) hzl).mono ?_
      rintro e X' ⟨g, rfl, hg, hrow, hb⟩
      rw [show z.map (yieldE es) = z.map (fidx l) from List.map_congr_left (fun y _ => h2' y)] at hrow ⊢
      exact ⟨_, rfl, ⟨g, rfl, ints_row hrow (by simp; exact hzl)⟩, hb⟩
    have HCB : Hid (∀ X, Below W.heap.size W X → X.cell? ⟨w.heap.size + 1, 0, none⟩ = some (.map (some w.heap.size))) := Lib.hid fun X hX => by rw [cell_of (heap_below h3 hX)]; rfl
    have HD := Lib.hid (And.intro hD hK)
    have HBL := Lib.hid hBl
    clear h1 h2 h3 h4 h5 h2' hst hbM hbB hBW hD hK hBl
    gi_wp2
    refine wpIn_wide.2 ?_
    refine wp_region_loose
      [IsV (.map (some w.heap.size)), IsV (.slice a l.length cap), IsInts (l.map (fidx l)), IsV (.map (some w.heap.size)), IsV (.slice b x.length capx), IsInts (x.map (fidx l)), IsInts (l.map (fidx l)), IsInts (x.map (fidx l))]
      [⟨17, [], [6]⟩, ⟨18, [], [0]⟩, ⟨19, [(0, 17), (1, 18)], []⟩, ⟨20, [], [6]⟩, ⟨21, [], [1]⟩, ⟨22, [(3, 20), (4, 21)], []⟩, ⟨4, [(2, 19)], []⟩, ⟨5, [(5, 22)], []⟩]
      (fun X => Below W.heap.size W X) (fun X X' => Below X.heap.size X X') (by kernel_rfl) (by kernel_rfl) rfl rfl (Below.refl _ W).drew ?_
      ⟨?_, ?_, ?_, ?_, ?_, ?_, ?_, ?_, trivial⟩ ?_
    · repeat (first | (intro _ h; cases h; done) | refine List.forall_mem_cons.2 ⟨stable_V _ _, ?_⟩ | refine List.forall_mem_cons.2 ⟨stable_ints _, ?_⟩)
    · intro A W hC hd hx
      have hk : ∀ v, A.eval (.const v) = v := fun _ => rfl
      have hy0 : A.eval (.tmp 6) = .pointer (some ⟨w.heap.size + 1, 0, none⟩) := hx 6 (by simp)
      have c1 := HCB.out W hC
      clear hd
      generalize A.eval = ρ at hk hy0 ⊢
      simp [go_sem, looseUpon, factOf, hk, hy0, c1]
      exact ⟨hC, Below.refl _ _⟩
    · intro A W hC hd hx
      have hk : ∀ v, A.eval (.const v) = v := fun _ => rfl
      have hy0 : A.eval (.tmp 0) = .slice a l.length cap := hx 0 (by simp)
      clear hd
      generalize A.eval = ρ at hk hy0 ⊢
      simp [go_sem, looseUpon, factOf, hk, hy0]
      exact ⟨hC, Below.refl _ _⟩
    · intro A W hC hd hx
      simp [factOf] at hd
      refine ⟨fun g hg => (by cases hg), ?_⟩
      refine loose_call rfl Tryz.func152 (by kernel_rfl) (by kernel_rfl) ?_
      simp only [List.map_toArray, List.map_cons, List.map_nil, hd]
      refine (HLK.out a l cap HHL.out hL W hC).mono ?_
      rintro e' W' ⟨v, rfl, h3, h4⟩
      exact ⟨_, rfl, h3, hC.trans (h4.mono hC.size), h4⟩
    · intro A W hC hd hx
      have hk : ∀ v, A.eval (.const v) = v := fun _ => rfl
      have hy0 : A.eval (.tmp 6) = .pointer (some ⟨w.heap.size + 1, 0, none⟩) := hx 6 (by simp)
      have c1 := HCB.out W hC
      clear hd
      generalize A.eval = ρ at hk hy0 ⊢
      simp [go_sem, looseUpon, factOf, hk, hy0, c1]
      exact ⟨hC, Below.refl _ _⟩
    · intro A W hC hd hx
      have hk : ∀ v, A.eval (.const v) = v := fun _ => rfl
      have hy0 : A.eval (.tmp 1) = .slice b x.length capx := hx 1 (by simp)
      clear hd
      generalize A.eval = ρ at hk hy0 ⊢
      simp [go_sem, looseUpon, factOf, hk, hy0]
      exact ⟨hC, Below.refl _ _⟩
    · intro A W hC hd hx
      simp [factOf] at hd
      refine ⟨fun g hg => (by cases hg), ?_⟩
      refine loose_call rfl Tryz.func152 (by kernel_rfl) (by kernel_rfl) ?_
      simp only [List.map_toArray, List.map_cons, List.map_nil, hd]
      refine (HLK.out b x capx HHX.out hX W hC).mono ?_
      rintro e' W' ⟨v, rfl, h3, h4⟩
      exact ⟨_, rfl, h3, hC.trans (h4.mono hC.size), h4⟩
    · intro A W hC hd hx
      simp [factOf] at hd
      refine ⟨fun g hg => (by cases hg), ?_⟩
      generalize A.eval = ρ at hd ⊢
      simp [go_sem, looseUpon, factOf]
      exact ⟨hd, hC, Below.refl _ _⟩
    · intro A W hC hd hx
      simp [factOf] at hd
      refine ⟨fun g hg => (by cases hg), ?_⟩
      generalize A.eval = ρ at hd ⊢
      simp [go_sem, looseUpon, factOf]
      exact ⟨hd, hC, Below.refl _ _⟩
    · intro X hC
      simp only [ends]
      rintro _ rfl _ rfl _ ⟨g1, rfl, i1⟩ _ rfl _ rfl _ ⟨g2, rfl, i2⟩ _ ⟨g3, rfl, i3⟩ _ ⟨g4, rfl, i4⟩
      simp only [putAll, List.zip_cons_cons, List.zip_nil_left, List.foldl_cons, List.foldl_nil, Act.put, List.setIfInBounds_toArray, List.set_cons_succ, List.set_cons_zero]
      have hK2 : X.heap[D]? = some (.deferred (some [])) := heap_below HD.out.2 hC
      gi_wp2
      refine ⟨by simp, .inl ⟨_, _, rfl, run_takeDeferred hK2, ?_⟩⟩
      refine ⟨.tuple #[.slice (some ⟨g3, 0, none⟩) (l.map (fidx l)).length (l.map (fidx l)).length, .slice (some ⟨g4, 0, none⟩) (x.map (fidx l)).length (x.map (fidx l)).length], by simp [results, Tryz.f139, go_sem], g3, g4, rfl, ints_put i3 hK2, ints_put i4 hK2, ?_⟩
      exact ((HBL.out).trans (hC.mono HBL.out.size)).trans (belowK_b (w := w) (Nat.le_refl _) X D _ _ (by have := HD.out.1; omega) hK2 rfl rfl)
  case stop =>
    rintro D c pre W _ _ h _
    exact h.elim
end Go.Proofs.YtdedfjkenbaebaaGreatDoor
