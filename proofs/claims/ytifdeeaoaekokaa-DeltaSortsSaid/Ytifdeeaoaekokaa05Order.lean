/- The order of commands by their targets: cmp.Compare, the closure of order, order. -/
import Derived.BigQuiet
import Derived.Test.Ytifdeeaoaekokaa00StableA
import Derived.Test.Ytifdeeaoaekokaa05Ref
namespace Go.Proofs.Ytifdeeaoaekokaa
open Go.RowKit Go.Sort
set_option linter.unusedVariables false
set_option linter.unusedSimpArgs false

theorem isnan_any (x : Int) (w : World) : Calls Try.prog 67 #[.int .i64 x] w fun e w' => e = .returned (.bool false) ∧ w' = w := by
  go_enter Try.func67, Try.ntmps67
  go_wp2
  go_ret
  exact ⟨by simp, rfl⟩
theorem compare_any (x y : Int) (w : World) : Calls Try.prog 58 #[.int .i64 x, .int .i64 y] w fun e w' => e = .returned (.int .i64 (cmpI x y)) ∧ w' = w := by
  have h1 := isnan_any x w
  have h2 := isnan_any y w
  unfold cmpI
  by_cases c1 : x < y
  · rw [if_pos c1]
    go_enter Try.func58, Try.ntmps58
    go_wp2_with fail
    refine h1.mono ?_
    rintro e _ ⟨rfl, rfl⟩
    go_wp2_with fail
    refine h2.mono ?_
    rintro e _ ⟨rfl, rfl⟩
    go_wp2
    go_ret
    exact ⟨rfl, rfl⟩
  · rw [if_neg c1]
    by_cases c2 : y < x
    · rw [if_pos c2]
      go_enter Try.func58, Try.ntmps58
      go_wp2_with fail
      refine h1.mono ?_
      rintro e _ ⟨rfl, rfl⟩
      go_wp2_with fail
      refine h2.mono ?_
      rintro e _ ⟨rfl, rfl⟩
      go_wp2
      go_ret
      exact ⟨rfl, rfl⟩
    · rw [if_neg c2]
      go_enter Try.func58, Try.ntmps58
      go_wp2_with fail
      refine h1.mono ?_
      rintro e _ ⟨rfl, rfl⟩
      go_wp2_with fail
      refine h2.mono ?_
      rintro e _ ⟨rfl, rfl⟩
      go_wp2
      go_ret
      exact ⟨rfl, rfl⟩

theorem CmdsIn.W {w : World} {ca : Option Addr} {cs : List Cmd} {ccap : Nat} (h : CmdsIn w ca cs ccap) {bs : List (Nat × Obj)} (s : HeldW w bs) : CmdsIn s.w ca cs ccap := h.below s.below
/-- A boxed slice of commands; what it holds, in every world of a class. -/
abbrev boxL (ca : Option Addr) (L ccap : Nat) : Obj := .cells #[.slice ca L ccap] 23 (0, 0)
def keyT (cs : List Cmd) (z : Int) : Int := ((cs[z.toNat]?).map Cmd.t).getD 0
theorem keyT_at {cs : List Cmd} {i : Nat} {c : Cmd} (h : cs[i]? = some c) : keyT cs i = c.t := by simp [keyT, h]

set_option maxRecDepth 100000 in
set_option maxHeartbeats 4000000 in
theorem orderC_any (B : Nat) (ca : Option Addr) (cs : List Cmd) (ccap i j : Nat) (w : World) (hB : w.heap[B]? = some (boxL ca cs.length ccap)) (h : CmdsIn w ca cs ccap) (hi : i < cs.length) (hj : j < cs.length) :
    Calls Try.prog 57 #[.int .i64 i, .int .i64 j, .pointer (some ⟨B, 0, none⟩)] w (Gives (.int .i64 (cmpI (keyT cs i) (keyT cs j))) w) := by
  obtain ⟨ci, hci⟩ : ∃ c, cs[i]? = some c := ⟨_, List.getElem?_eq_getElem hi⟩
  obtain ⟨cj, hcj⟩ : ∃ c, cs[j]? = some c := ⟨_, List.getElem?_eq_getElem hj⟩
  rw [keyT_at hci, keyT_at hcj]
  obtain ⟨b, o, rfl, _⟩ := h.at hci
  have hbl : ∀ p ∈ [(B, boxL (some ⟨b, o, none⟩) cs.length ccap)], w.heap[p.1]? = some p.2 := by simpa using hB
  have c0 : ∀ s : HeldW w [(B, boxL (some ⟨b, o, none⟩) cs.length ccap)], s.w.cell? ⟨B, 0, none⟩ = some (.slice (some ⟨b, o, none⟩) cs.length ccap) := fun s => by rw [cell_of (s.blocks _ List.mem_cons_self)]; rfl
  have c1 : ∀ s : HeldW w [(B, boxL (some ⟨b, o, none⟩) cs.length ccap)], s.w.cell? ⟨b, o + i * 5 + 1, none⟩ = some (.int .i64 ci.t) := fun s => by
    obtain ⟨b', o', e, _, h1, _⟩ := (h.W s).at hci
    simp only [Option.some.injEq, Addr.mk.injEq] at e
    obtain ⟨rfl, rfl, _⟩ := e
    exact h1
  have c2 : ∀ s : HeldW w [(B, boxL (some ⟨b, o, none⟩) cs.length ccap)], s.w.cell? ⟨b, o + j * 5 + 1, none⟩ = some (.int .i64 cj.t) := fun s => by
    obtain ⟨b', o', e, _, h1, _⟩ := (h.W s).at hcj
    simp only [Option.some.injEq, Addr.mk.injEq] at e
    obtain ⟨rfl, rfl, _⟩ := e
    exact h1
  have hlen := h.len
  have hcap := h.capb
  have hcmp := fun s : HeldW w [(B, boxL (some ⟨b, o, none⟩) cs.length ccap)] => gives_same (compare_any ci.t cj.t s.w)
  clear h hB hci hcj
  generalize cs.length = L at *
  go_enter Try.func57, Try.ntmps57
  go_wp2_with fail
  refine wp_region_class w _ (by kernel_rfl) (by kernel_rfl) (Below.refl _ _) hbl (fun hne => ?_)
  repeat (go_big_quiet_step ((go_at_call 58; exact HeldW.call (hcmp _))))
  refine wpQuiet_nil ?_
  rintro _ ⟨s2, rfl⟩
  go_wp2
  go_ret
  exact ⟨rfl, s2.below⟩

theorem made_zeroI (k : Nat) : madeCells (Value.int .i64 0).cells (k * 1) = (Array.replicate k (0 : Int)).map (Value.int .i64) := by
  apply Array.ext_getElem?
  intro i
  unfold madeCells
  rw [Nat.mul_one]
  by_cases h : i < k
  · simp [h, Value.cells, Nat.mod_one]
  · simp [h]
theorem make_ints (k : Nat) (hk : k ≤ 1000000) (w : World) : (Instr.makeSlice 62 (.int .i64 (k : Int)) (.int .i64 (k : Int))).run Try.prog w = .ok (.slice (some ⟨w.heap.size, 0, none⟩) k k) (w.alloc (rowI (Array.replicate k 0))) := by
  have hi : ∃ i, Try.prog.info? 3 = some i ∧ i.zero = some (.int .i64 0) ∧ i.size = 1 ∧ i.bytes = 8 := by
    have h : (Try.prog.info? 3).map (fun i => (i.zero, i.size, i.bytes)) = some (some (.int .i64 0), 1, 8) := by kernel_rfl
    obtain ⟨i, hi, he⟩ := Option.map_eq_some_iff.1 h
    simp only [Prod.mk.injEq] at he
    exact ⟨i, hi, he.1, he.2.1, he.2.2⟩
  obtain ⟨i, hi, hz, hs, hb⟩ := hi
  rw [run_make w 62 3 i _ Try.underlying62 hi hz .i64 .i64 k k (by omega) (by omega) (by rw [hb]; omega) (by omega)]
  rw [hs, Int.toNat_natCast, made_zeroI]

/-- The indices of commands in ascending order of their targets. -/
structure IsOrder (cs : List Cmd) (idx : Array Int) : Prop where
  size : idx.size = cs.length
  perm : idx.toList.Perm ((List.range cs.length).map (fun i : Nat => (i : Int)))
  asc : AscIn (keyT cs) 0 cs.length idx
def OrderPost (cs : List Cmd) (w : World) (e : Ending) (w' : World) : Prop :=
  ∃ (g : Nat) (idx : Array Int), e = .returned (.slice (some ⟨g, 0, none⟩) cs.length cs.length) ∧ w.heap.size ≤ g ∧ w'.heap[g]? = some (rowI idx) ∧ Below w.heap.size w w' ∧ IsOrder cs idx

/-- A filled row. -/
theorem filled {L : Nat} {dk : Array Int} (hs : dk.size = L) (h : ∀ i, i < L → dk[i]! = (i : Int)) : dk.toList = (List.range L).map (fun i : Nat => (i : Int)) := by
  apply List.ext_getElem
  · simp [hs]
  · intro i h1 h2
    have hi : i < dk.size := by simpa using h1
    have := h i (by omega)
    rw [getElem!_pos dk i hi] at this
    simpa using this
theorem permIn_whole {L : Nat} {d d' : Array Int} (h : PermIn 0 L d d') (hs : d.size = L) : d'.toList.Perm d.toList := by
  have h2 := h.2.2
  have e1 : d'.extract 0 L = d' := by rw [← hs, ← h.1]; simp
  have e2 : d.extract 0 L = d := by rw [← hs]; simp
  rwa [e1, e2] at h2

set_option maxRecDepth 100000 in
set_option maxHeartbeats 4000000 in
theorem order_any (ca : Option Addr) (cs : List Cmd) (ccap : Nat) (w : World) (h : CmdsIn w ca cs ccap) (hL : cs.length ≤ 1000000) : Calls Try.prog 41 #[.slice ca cs.length ccap] w (OrderPost cs w) := by
  have hpost : Hid (∀ e w', (∃ (g : Nat) (idx : Array Int), e = .returned (.slice (some ⟨g, 0, none⟩) cs.length cs.length) ∧ w.heap.size ≤ g ∧ w'.heap[g]? = some (rowI idx) ∧ Below w.heap.size w w' ∧ IsOrder cs idx) → OrderPost cs w e w') := Lib.hid fun _ _ h => h
  have HC := Lib.hid h
  obtain ⟨L, hLe⟩ : ∃ L, L = cs.length := ⟨_, rfl⟩
  have HL := Lib.hid hLe
  have hmk := fun w => make_ints L (by omega) w
  rw [← hLe] at hL hpost ⊢
  clear h hLe
  go_enter Try.func41, Try.ntmps41
  go_wp2
  obtain ⟨s, hs⟩ : ∃ s : HeldW w [(w.heap.size + 1, rowI (Array.replicate L 0)), (w.heap.size, boxL ca L ccap)], (w.alloc (boxL ca L ccap)).alloc (rowI (Array.replicate L 0)) = s.w := start2 w _ _
  rw [hs]
  clear hs hmk
  go_loopw [10] (fun v wr => ∃ k : Nat, k ≤ L ∧ v = .int .i64 k ∧ ∃ dk : Array Int, dk.size = L ∧ Hid (∀ i, i < k → dk[i]! = (i : Int)) ∧ ∃ s : HeldW w [(w.heap.size + 1, rowI dk), (w.heap.size, boxL ca L ccap)], wr = s.w) (fun v _ => L - (intOf v).toNat)
  case atStart => exact ⟨0, by omega, rfl, _, by simp, Lib.hid (fun i hi => by omega), s, rfl⟩
  case round =>
    clear s
    obtain ⟨k, hk, rfl, dk, hsz, hf, s, rfl⟩ := hrel
    by_cases hlt : k < L
    · obtain ⟨u, c1⟩ : ∃ u, s.w.cell? ⟨w.heap.size + 1, k, none⟩ = some u := ⟨.int .i64 dk[k]!, by rw [cell_of (s.blocks (w.heap.size + 1, rowI dk) List.mem_cons_self)]; simp [getElem!_pos dk k (by omega), show k < dk.size by omega]⟩
      have f1 : s.w.frozen? ⟨w.heap.size + 1, k, none⟩ = false := free_of (s.blocks (w.heap.size + 1, rowI dk) List.mem_cons_self) k
      have hstep : Hid (∀ i, i < k + 1 → (dk.setIfInBounds k (k : Int))[i]! = (i : Int)) := Lib.hid fun i hi => by
        rw [getElem!_pos _ i (by simp; omega), Array.getElem_setIfInBounds (by omega)]
        by_cases e : k = i
        · subst e; simp
        · rw [if_neg e]
          have := hf.out i (by omega)
          rwa [getElem!_pos dk i (by omega)] at this
      have hsz2 : (dk.setIfInBounds k (k : Int)).size = L := by simp [hsz]
      have HS : Hid (∃ s' : HeldW w [(w.heap.size + 1, rowI (dk.setIfInBounds k (k : Int))), (w.heap.size, boxL ca L ccap)], s.w.setCell ⟨w.heap.size + 1, k, none⟩ (.int .i64 k) = s'.w) := Lib.hid ⟨HeldW.store (i := k) (v := .int .i64 k) s (by omega) (by simp) (by simp), rfl⟩
      go_wp2
      obtain ⟨s', hs'⟩ := HS.out
      rw [hs']
      go_roundw
      case rel => exact ⟨k + 1, by omega, by go_num, _, hsz2, hstep, s', rfl⟩
      case measure => simp [intOf]; omega
    · obtain rfl : k = L := by omega
      have hrow : s.w.heap[w.heap.size + 1]? = some (rowI dk) := s.blocks _ List.mem_cons_self
      have hbox : s.w.heap[w.heap.size]? = some (boxL ca k ccap) := s.blocks (w.heap.size, boxL ca k ccap) (by simp)
      have hE : AllE (fun z => ∃ i : Nat, i < k ∧ z = (i : Int)) dk := fun i hi => ⟨i, by omega, hf.out i (by omega)⟩
      have hcmp : CmpX s.w (w.heap.size + 1) k 57 #[.pointer (some ⟨w.heap.size, 0, none⟩)] (keyT cs) (fun z => ∃ i : Nat, i < k ∧ z = (i : Int)) :=
        ⟨enters_of Try.func57 (by kernel_rfl) rfl, fun d t hd x y ⟨i, hi, hx⟩ ⟨j, hj, hy⟩ => by
          subst hx; subst hy
          have hb : Below w.heap.size w t.w := s.below.trans ((t.but.mono s.below.size).below (by omega))
          refine orderC_any w.heap.size ca cs ccap i j t.w ?_ (HC.out.below hb) (by rw [← HL.out]; exact hi) (by rw [← HL.out]; exact hj)
          rw [← HL.out]
          exact (t.but.block _ (Array.getElem?_eq_some_iff.1 hbox).1 (by omega)).trans hbox⟩
      have hcall := sort_stable_any 57 #[.pointer (some ⟨w.heap.size, 0, none⟩)] (keyT cs) _ (w.heap.size + 1) k k s.w hcmp (by omega) dk (HeldX.start hrow) hsz hE
      have hw : (HeldX.start hrow).w = s.w := rfl
      rw [hw] at hcall
      have HF := Lib.hid (filled hsz hf.out)
      clear hw hcmp hE hf hrow hbox hlt
      go_wp2_with fail
      refine hcall.mono ?_
      rintro e _ ⟨rfl, d', hp, ha, t, rfl⟩
      clear hcall
      have HP := Lib.hid hp
      have HA := Lib.hid ha
      clear hp ha
      go_wp2
      go_ret
      refine hpost.out _ _ ⟨_, d', rfl, by omega, t.blocks _ List.mem_cons_self, s.below.trans ((t.but.mono s.below.size).below (by omega)), ⟨by rw [HP.out.1, hsz, HL.out], ?_, by rw [← HL.out]; exact HA.out⟩⟩
      have := permIn_whole HP.out hsz
      rw [HF.out, HL.out] at this
      exact this
end Go.Proofs.Ytifdeeaoaekokaa
