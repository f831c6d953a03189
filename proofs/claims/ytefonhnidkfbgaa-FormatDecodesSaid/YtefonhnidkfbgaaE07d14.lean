import Derived.Deep.RegionWith
import Derived.Test.YtefonhnidkfbgaaE07d8
import Derived.Test.YtefonhnidkfbgaaE07d9
import Derived.Test.YtefonhnidkfbgaaE07d13
import Derived.Laws.Append
import Derived.Lib.AppendZerosOnto
import Derived.Lib.Walk
import Derived.Lib.SliceRun
import Derived.LoopTactic
import Derived.Test.YtefonhnidkfbgaaE07d2
import Derived.Test.YtefonhnidkfbgaaE07d6
import Derived.Deep.AppendSrc
import Derived.Test.YtefonhnidkfbgaaE07d5
import Derived.Deep.Onto
import Derived.Test.YtefonhnidkfbgaaE07d3
import Derived.Laws.StructEq
import Derived.Test.YtefonhnidkfbgaaE07d12
import Derived.Laws.MakeOwn
import Derived.Test.YtefonhnidkfbgaaE07d11
import Derived.Shelf.Abstract
/- Package format: what follows the To of a command is read. -/
namespace Go.Proofs.Ytefonhnidkfbgaa
open Go.RowKit
set_option linter.unusedVariables false
set_option linter.unusedSimpArgs false

theorem wbytes_big (g dcap : Nat) (da : Option Addr) (D : List Int) (s : RS) (w : World) (k : Int) (h : w.heap[g]? = some (rsO s D.length da dcap)) (hn : s.n ≤ D.length) (hD : BytesIn w da D dcap) (hL : D.length ≤ 1000000000) :
    Calls Try.prog 31 #[.pointer (some ⟨g, 0, none⟩), .int .i64 k] w (MakesPuts g (rsO (bytesR D k s).2 D.length da dcap) (bytesR D k s).1 w) := by
  by_cases hk : k ≤ 1000000000
  · exact wbytes_all g dcap da D s w k h hn hD hk
  · have hnil : ∀ {o : Obj} {e : Ending} {w' : World}, Puts g o (.slice none 0 0) w e w' → MakesPuts g o [] w e w' := fun ⟨he, hb, ho⟩ => ⟨_, he, hb, ho, World.ownsRow_nil _ w.heap.size 5 1⟩
    obtain ⟨n, c, p⟩ := s
    simp only at hn
    by_cases h0 : c = 0
    · subst h0
      have e : bytesR D k ⟨n, 0, p⟩ = ([], ⟨n, 8, D.length⟩) := by unfold bytesR; rw [if_neg (by simp), if_neg (by omega), if_pos (by simp only; omega)]
      rw [e]
      exact (bytes_short g n D.length dcap da w p k h (by omega) hn (by omega) (by omega)).mono fun _ _ => hnil
    · have e : bytesR D k ⟨n, c, p⟩ = ([], ⟨n, c, p⟩) := by unfold bytesR; rw [if_pos h0]
      rw [e]
      exact (gives_puts h (bytes_not g n D.length dcap da w c p k h h0)).mono fun _ _ => hnil

/-- A reader in a world. -/
structure RdAt (w : World) (g : Nat) (da : Option Addr) (dcap : Nat) (D : List Int) (s : RS) : Prop where
  rd : w.heap[g]? = some (rsO s D.length da dcap)
  b : BytesIn w da D dcap
  pl : PlaceR D s
  ne : ∀ b o, da = some ⟨b, o, none⟩ → b ≠ g
  len : D.length ≤ 1000000000
theorem lengthR_bound (D : List Int) (s : RS) : 0 ≤ (lengthR D s).1 ∧ (lengthR D s).1 ≤ 4611686018427387903 := by
  have h := uintR_bound D 8 s
  unfold lengthR
  split
  · simp
  · omega
theorem bytes_X {w : World} {a : Option Addr} {l : List Int} {cap g : Nat} (h : BytesIn w a l cap) (hne : ∀ b o, a = some ⟨b, o, none⟩ → b ≠ g) {bs : List (Nat × Obj)} (s : HeldX w g bs) : BytesIn s.w a l cap :=
  bytes_keep h fun hp ad had hlt => s.but.block _ hlt (by
    obtain ⟨b, o, he, _⟩ := h.cells hp
    rw [he] at had
    cases had
    exact hne b o he)

abbrev frdO (g : Nat) : Obj := .cells #[.pointer (some ⟨g, 0, none⟩)] 43 (0, 0)
abbrev cmdRow (k t f n : Int) (v : Value) : Array Value := #[.int .i64 k, .int .i64 t, .int .i64 f, .int .i64 n, v]
theorem cmdRow_one (k t f n : Int) (a : Option Addr) (L C : Nat) : (cmdRow k t f n (.slice a L C)).all (·.oneCell') = true := by simp [Value.oneCell']
theorem cmdRow_size (k t f n : Int) (v : Value) : (Try.prog.info? 58).map (·.size) = some (cmdRow k t f n v).size := by
  show (Try.prog.info? 58).map (·.size) = some 5
  kernel_rfl
/-- The five cells of a block are written. -/
theorem row5_set {W : World} {b : Nat} {c0 c1 c2 c3 c4 : Value} {t : TypeId} (h : W.heap[b]? = some (.cells #[c0, c1, c2, c3, c4] t (0, 0))) (u0 u1 u2 u3 u4 : Value) : (((((W.setCell ⟨b, 0, none⟩ u0).setCell ⟨b, 1, none⟩ u1).setCell ⟨b, 2, none⟩ u2).setCell ⟨b, 3, none⟩ u3).setCell ⟨b, 4, none⟩ u4).heap[b]? = some (.cells #[u0, u1, u2, u3, u4] t (0, 0)) := by
  have h0 := heap_setCell_same W _ 0 _ _ u0 h
  have h1 := heap_setCell_same _ _ 1 _ _ u1 h0
  have h2 := heap_setCell_same _ _ 2 _ _ u2 h1
  have h3 := heap_setCell_same _ _ 3 _ _ u3 h2
  have h4 := heap_setCell_same _ _ 4 _ _ u4 h3
  exact h4
theorem row5_other {W : World} {b : Nat} (u0 u1 u2 u3 u4 : Value) (k : Nat) (hk : k ≠ b) : (((((W.setCell ⟨b, 0, none⟩ u0).setCell ⟨b, 1, none⟩ u1).setCell ⟨b, 2, none⟩ u2).setCell ⟨b, 3, none⟩ u3).setCell ⟨b, 4, none⟩ u4).heap[k]? = W.heap[k]? := by
  repeat rw [Below.heap_setCell _ _ _ _ (by simpa using hk)]

set_option maxRecDepth 100000 in
set_option maxHeartbeats 4000000 in
theorem copyTo_any (g dcap : Nat) (da : Option Addr) (D : List Int) (s : RS) (to : Int) (w : World) (h : RdAt w g da dcap D s) :
    Calls Try.prog 47 #[.agg #[.pointer (some ⟨g, 0, none⟩)], .int .i64 to] w (Puts g (rsO (lengthR D (lengthR D s).2).2 D.length da dcap) (cmdV 1 to (lengthR D s).1 (lengthR D (lengthR D s).2).1 (.slice none 0 0)) w) := by
  have hgl := (Array.getElem?_eq_some_iff.1 h.rd).1
  obtain ⟨S1, hS1⟩ : ∃ S1 : HeldX w g [(g, rsO s D.length da dcap), (w.heap.size, frdO g), (w.heap.size + 1, cmdO 0 0 0 0 (.slice none 0 0))], (w.alloc (frdO g)).alloc (cmdO 0 0 0 0 (.slice none 0 0)) = S1.w :=
    ⟨⟨_, But.of_below (((Below.refl _ w).alloc (Nat.le_refl _) _).alloc (by simp) _), all3 (heap_old (heap_old h.rd _) _) (heap_old (heap_new w _ rfl) _) (heap_new _ _ (by simp))⟩, rfl⟩
  have HS1 := Lib.hid hS1
  obtain ⟨r1, hr1⟩ : ∃ r, r = lengthR D s := ⟨_, rfl⟩
  rw [← hr1]
  obtain ⟨r2, hr2⟩ : ∃ r, r = lengthR D r1.2 := ⟨_, rfl⟩
  rw [← hr2]
  have hp1 : r1.2.n ≤ D.length := by rw [hr1]; exact (lengthR_place h.pl).n
  have HL1 : Hid (∀ S : HeldX w g [(g, rsO s D.length da dcap), (w.heap.size, frdO g), (w.heap.size + 1, cmdO 0 0 0 0 (.slice none 0 0))], Calls Try.prog 30 #[.pointer (some ⟨g, 0, none⟩)] S.w fun e w'' => e = .returned (.int .i64 r1.1) ∧ ∃ s' : HeldX w g [(g, rsO r1.2 D.length da dcap), (w.heap.size, frdO g), (w.heap.size + 1, cmdO 0 0 0 0 (.slice none 0 0))], w'' = s'.w) := Lib.hid fun S => by
    have h1 := wlength_all g dcap da D s S.w (S.blocks (g, _) (by simp)) h.pl.n (bytes_X h.b h.ne S)
    rw [← hr1] at h1
    exact HeldX.puts h1 (.inl rfl) (all2 (Q := fun p : Nat × Obj => p.1 ≠ g) (by simp only; omega) (by simp only; omega))
  have HL2 : Hid (∀ S : HeldX w g [(g, rsO r1.2 D.length da dcap), (w.heap.size, frdO g), (w.heap.size + 1, cmdO 0 0 0 0 (.slice none 0 0))], Calls Try.prog 30 #[.pointer (some ⟨g, 0, none⟩)] S.w fun e w'' => e = .returned (.int .i64 r2.1) ∧ ∃ s' : HeldX w g [(g, rsO r2.2 D.length da dcap), (w.heap.size, frdO g), (w.heap.size + 1, cmdO 0 0 0 0 (.slice none 0 0))], w'' = s'.w) := Lib.hid fun S => by
    have h1 := wlength_all g dcap da D r1.2 S.w (S.blocks (g, _) (by simp)) hp1 (bytes_X h.b h.ne S)
    rw [← hr2] at h1
    exact HeldX.puts h1 (.inl rfl) (all2 (Q := fun p : Nat × Obj => p.1 ≠ g) (by simp only; omega) (by simp only; omega))
  have cB := Lib.hid (fun (o : Obj) (S : HeldX w g [(g, o), (w.heap.size, frdO g), (w.heap.size + 1, cmdO 0 0 0 0 (.slice none 0 0))]) => (show S.w.cell? ⟨w.heap.size, 0, none⟩ = some (.pointer (some ⟨g, 0, none⟩)) from by rw [cell_of (S.blocks (w.heap.size, frdO g) (by simp))]; rfl))
  clear hr1 hr2 hp1 hS1 h
  go_enter Try.func47, Try.ntmps47
  go_wp2_with fail
  rw [HS1.out]
  refine (HL1.out S1).mono ?_
  rintro e _ ⟨rfl, S2, rfl⟩
  have c1 := cB.out _ S2
  go_wp2_with fail
  refine (HL2.out S2).mono ?_
  rintro e _ ⟨rfl, S3, rfl⟩
  have hrow : S3.w.heap[w.heap.size + 1]? = some (.cells (cmdRow 0 0 0 0 (.slice none 0 0)) 58 (0, 0)) := S3.blocks (w.heap.size + 1, cmdO 0 0 0 0 (.slice none 0 0)) (by simp)
  go_wp2_with (refine wpList_store_rowTo rfl 58 (.tmp 4) (.tmp 14) rfl rfl (w.heap.size + 1) (cmdRow 1 to r1.1 r2.1 (.slice none 0 0)) rfl rfl 58 (cmdRow 0 0 0 0 (.slice none 0 0)) hrow (cmdRow_size _ _ _ _ _) rfl (cmdRow_one _ _ _ _ _ _ _) ?_)
  refine bodyPost_ret (v := cmdV 1 to r1.1 r2.1 (.slice none 0 0)) ?_ rfl ⟨rfl, ?_, ?_⟩
  · exact results_cell_row Try.results47 _ _ (w.heap.size + 1) 58 _ (0, 0) _ rfl (setRow_heap _ _ _ _ _ _ hrow) Try.underlying58 rfl (cmdRow_size _ _ _ _ _)
  · exact S3.but.trans ⟨rfl, rfl, rfl, by simp, fun k hk hn => setRow_other _ _ _ _ (by omega)⟩
  · rw [setRow_other _ _ _ _ (by omega)]
    exact S3.blocks (g, _) (by simp)

/-- What literalTo hands back. -/
def LitPost (g : Nat) (o : Obj) (to : Int) (l : List Int) (w : World) (e : Ending) (w' : World) : Prop :=
  ∃ A C, e = .returned (cmdV 2 to 0 0 (.slice A l.length C)) ∧ But g w.heap.size w w' ∧ w'.heap[g]? = some o ∧ BytesIn w' A l C ∧ ∀ ad, A = some ad → w.heap.size ≤ ad.block ∧ ad.block < w'.heap.size

set_option maxRecDepth 100000 in
set_option maxHeartbeats 4000000 in
theorem literalTo_any (g dcap : Nat) (da : Option Addr) (D : List Int) (s : RS) (to : Int) (w : World) (h : RdAt w g da dcap D s) :
    Calls Try.prog 48 #[.agg #[.pointer (some ⟨g, 0, none⟩)], .int .i64 to] w (LitPost g (rsO (bytesR D (lengthR D s).1 (lengthR D s).2).2 D.length da dcap) to (bytesR D (lengthR D s).1 (lengthR D s).2).1 w) := by
  have hgl := (Array.getElem?_eq_some_iff.1 h.rd).1
  obtain ⟨S1, hS1⟩ : ∃ S1 : HeldX w g [(g, rsO s D.length da dcap), (w.heap.size, frdO g), (w.heap.size + 1, cmdO 0 0 0 0 (.slice none 0 0))], (w.alloc (frdO g)).alloc (cmdO 0 0 0 0 (.slice none 0 0)) = S1.w :=
    ⟨⟨_, But.of_below (((Below.refl _ w).alloc (Nat.le_refl _) _).alloc (by simp) _), all3 (heap_old (heap_old h.rd _) _) (heap_old (heap_new w _ rfl) _) (heap_new _ _ (by simp))⟩, rfl⟩
  have HS1 := Lib.hid hS1
  obtain ⟨r1, hr1⟩ : ∃ r, r = lengthR D s := ⟨_, rfl⟩
  rw [← hr1]
  obtain ⟨r2, hr2⟩ : ∃ r, r = bytesR D r1.1 r1.2 := ⟨_, rfl⟩
  rw [← hr2]
  have hp1 : r1.2.n ≤ D.length := by rw [hr1]; exact (lengthR_place h.pl).n
  have HL1 : Hid (∀ S : HeldX w g [(g, rsO s D.length da dcap), (w.heap.size, frdO g), (w.heap.size + 1, cmdO 0 0 0 0 (.slice none 0 0))], Calls Try.prog 30 #[.pointer (some ⟨g, 0, none⟩)] S.w fun e w'' => e = .returned (.int .i64 r1.1) ∧ ∃ s' : HeldX w g [(g, rsO r1.2 D.length da dcap), (w.heap.size, frdO g), (w.heap.size + 1, cmdO 0 0 0 0 (.slice none 0 0))], w'' = s'.w) := Lib.hid fun S => by
    have h1 := wlength_all g dcap da D s S.w (S.blocks (g, _) (by simp)) h.pl.n (bytes_X h.b h.ne S)
    rw [← hr1] at h1
    exact HeldX.puts h1 (.inl rfl) (all2 (Q := fun p : Nat × Obj => p.1 ≠ g) (by simp only; omega) (by simp only; omega))
  have HL2 : Hid (∀ S : HeldX w g [(g, rsO r1.2 D.length da dcap), (w.heap.size, frdO g), (w.heap.size + 1, cmdO 0 0 0 0 (.slice none 0 0))], Calls Try.prog 31 #[.pointer (some ⟨g, 0, none⟩), .int .i64 r1.1] S.w fun e w'' => ∃ A C, e = .returned (.slice A r2.1.length C) ∧ ∃ s' : HeldX w g [(g, rsO r2.2 D.length da dcap), (w.heap.size, frdO g), (w.heap.size + 1, cmdO 0 0 0 0 (.slice none 0 0))], w'' = s'.w ∧ BytesIn s'.w A r2.1 C ∧ ∀ ad, A = some ad → w.heap.size + 2 ≤ ad.block ∧ ad.block < s'.w.heap.size) := Lib.hid fun S => by
    have h1 := wbytes_big g dcap da D r1.2 S.w r1.1 (S.blocks (g, _) (by simp)) hp1 (bytes_X h.b h.ne S) h.len
    rw [← hr2] at h1
    refine h1.mono ?_
    rintro e w'' ⟨v, rfl, hb, ho, hrow⟩
    obtain ⟨A, C, rfl, hB, hA⟩ := own_sl hrow
    have h2 := (Array.getElem?_eq_some_iff.1 (S.blocks (w.heap.size + 1, cmdO 0 0 0 0 (.slice none 0 0)) (by simp))).1
    refine ⟨A, C, rfl, ⟨w'', S.but.trans (hb.mono S.but.size), all3 ho ((hb.block _ (Array.getElem?_eq_some_iff.1 (S.blocks (w.heap.size, frdO g) (by simp))).1 (by simp only; omega)).trans (S.blocks (w.heap.size, frdO g) (by simp))) ((hb.block _ h2 (by simp only; omega)).trans (S.blocks (w.heap.size + 1, cmdO 0 0 0 0 (.slice none 0 0)) (by simp)))⟩, rfl, hB, fun ad had => ?_⟩
    have h3 := hA ad had
    simp only at h2
    exact ⟨by omega, h3.2⟩
  have cB := Lib.hid (fun (o : Obj) (S : HeldX w g [(g, o), (w.heap.size, frdO g), (w.heap.size + 1, cmdO 0 0 0 0 (.slice none 0 0))]) => (show S.w.cell? ⟨w.heap.size, 0, none⟩ = some (.pointer (some ⟨g, 0, none⟩)) from by rw [cell_of (S.blocks (w.heap.size, frdO g) (by simp))]; rfl))
  have cD := Lib.hid (fun (o : Obj) (S : HeldX w g [(g, o), (w.heap.size, frdO g), (w.heap.size + 1, cmdO 0 0 0 0 (.slice none 0 0))]) => (show S.w.drew.cell? ⟨w.heap.size, 0, none⟩ = some (.pointer (some ⟨g, 0, none⟩)) from by rw [cell_of (S.drawC.blocks (w.heap.size, frdO g) (by simp))]; rfl))
  clear hr1 hr2 hp1 hS1 h
  go_enter Try.func48, Try.ntmps48
  go_wp2_with fail
  rw [HS1.out]
  have y0 := cD.out _ S1
  have hu := HL1.out S1.drawC
  go_region_with (first
    | (go_at_call 30; refine hu.mono ?_; rintro e _ ⟨rfl, S2, rfl⟩; have z0 := cB.out _ S2; have hv := HL2.out S2)
    | (go_at_call 31; refine hv.mono ?_; rintro e _ ⟨A, C, rfl, S3, rfl, hB3, hA3⟩; have z1 := cB.out _ S3; have hrow : S3.w.heap[w.heap.size + 1]? = some (.cells (cmdRow 0 0 0 0 (.slice none 0 0)) 58 (0, 0)) := S3.blocks (w.heap.size + 1, cmdO 0 0 0 0 (.slice none 0 0)) (by simp); obtain ⟨q0, q1, q2, q3, q4⟩ := cmd_cells hrow; have qf := fun i => free_of hrow i))
  all_goals (
    clear y0 hu z0 hv z1 q0 q1 q2 q3 q4 qf
    go_wp2
    refine bodyPost_ret (v := cmdV 2 to 0 0 (.slice A r2.1.length C)) ?_ rfl ⟨A, C, rfl, ?_, ?_, ?_, ?_⟩
    · exact results_cell_row Try.results48 _ _ (w.heap.size + 1) 58 _ (0, 0) _ rfl (row5_set hrow _ _ _ _ _) Try.underlying58 rfl (cmdRow_size _ _ _ _ _)
    · exact S3.but.trans ⟨rfl, rfl, rfl, by simp [World.setCell], fun k hk hn => row5_other _ _ _ _ _ _ (by omega)⟩
    · rw [row5_other _ _ _ _ _ _ (by omega)]
      exact S3.blocks (g, _) (by simp)
    · exact bytes_keep hB3 fun hp ad had hlt => row5_other _ _ _ _ _ _ (by have := hA3 ad had; omega)
    · intro ad had
      have := hA3 ad had
      simp [World.setCell]
      omega)
end Go.Proofs.Ytefonhnidkfbgaa

/- slices.Grow of no bytes, slices.Concat of slices of bytes: a new slice of its own. -/
namespace Go.Proofs.Ytefonhnidkfbgaa
open Go.RowKit
set_option linter.unusedVariables false

set_option maxRecDepth 100000 in
set_option maxHeartbeats 4000000 in
theorem grow8_any (n : Nat) (hn : n ≤ 140737488355328) (w : World) : Calls Try.prog 42 #[.slice none 0 0, .int .i64 n] w fun e w' => ∃ v, e = .returned v ∧ ∃ s : OwnW w 5 v [], w' = s.w := by
  by_cases h0 : n = 0
  · subst h0
    go_enter Try.func42, Try.ntmps42
    go_wp2
    go_ret
    exact ⟨_, rfl, ⟨w, Below.refl _ _, World.ownsRow_nil w w.heap.size 5 1⟩, rfl⟩
  · obtain ⟨E, hEb⟩ := elem8
    have hold : (Builtin.firstCells E.i.size 0 (.slice none 0 0)).run Try.prog w.drew = .ok ([] : List Value).toArray w.drew := run_firstCells_none w.drew E.i.size 0 0 0
    have hfit : Builtin.nextslicecap (0 + n) 0 * E.i.bytes ≤ 281474976710656 := growslice_fits (by omega) (by rw [E.hby, hEb]; omega)
    have hrun := fun ty => Lib.run_append_grow_zeros (P := Try.prog) w 22 3 ty 5 E.i E.z .i64 .i64 E.ht Try.underlying3 E.hi E.hz none 0 0 [] hold n (by omega) (by rw [E.hsize]; omega) (by omega) (by omega) (by rw [E.hby, hEb]; omega) hfit
    rw [Nat.zero_add] at hrun
    have hG := grownCap_ge w n 0 5
    have hG2 := grownCap_le_maxLen w n 0 5 (by unfold maxLen; omega)
    generalize grownCap w n 0 5 = G at hrun hG hG2
    obtain ⟨cs, hcs⟩ : ∃ cs : Array Value, cs = ([] : List Value).toArray ++ Builtin.zeroCells E.z.cells n ++ Builtin.zeroCells E.z.cells (G - n) := ⟨_, rfl⟩
    have hsz : cs.size = G * 1 := by
      rw [hcs, Array.size_append, Array.size_append, size_zeroCells, size_zeroCells, E.hzs]
      simp
      omega
    rw [← hcs] at hrun
    have hG3 : G ≤ 9223372036854775807 := by unfold maxLen at hG2; omega
    have HSZ := Lib.hid hsz
    have HG2 := Lib.hid hG2
    have hd : decide ((0 : Int) < (n : Int)) = true := by simp; omega
    clear hold hfit hcs hsz hG2
    go_enter Try.func42, Try.ntmps42
    go_wp2_with (refine Lib.wpList_append_run _ rfl _ _ _ _ rfl _ _ rfl rfl _ _ (hrun _) ?_)
    go_ret
    exact ⟨_, rfl, ⟨w.drew.alloc (.cells cs 5), ((Below.refl _ w).drew).alloc (Nat.le_refl _) _, World.ownsRow_made (base := w.heap.size) (e := 5) (size := 1) w.drew cs G (Nat.le_refl _) HG2.out HSZ.out⟩, rfl⟩

/-- How long some parts are, all in all. -/
theorem sum_take (ls : List (List Int)) {k : Nat} (hk : k < ls.length) : (ls.take (k + 1)).flatten.length = (ls.take k).flatten.length + (partOf ls k).length := by rw [take_flat ls hk, List.length_append]

set_option maxRecDepth 100000 in
set_option maxHeartbeats 4000000 in
theorem concat8_any (ls : List (List Int)) (pa : Option Addr) (pcap : Nat) (w : World) (hp : PartsIn w pa ls) (hm : ls.flatten.length ≤ 140737488351232) :
    Calls Try.prog 27 #[.slice pa ls.length pcap] w (MakesR 5 (ls.flatten.map (Value.int .u8)) w) := by
  obtain ⟨E, hEb⟩ := elem8
  have HEB := Lib.hid hEb
  have HP := Lib.hid hp
  have HF := Lib.hid (show ∀ k, (ls.take k).flatten.length ≤ 140737488351232 from fun k => Nat.le_trans (take_flat_le ls k) hm)
  have hle := hp.len
  have HM := Lib.hid hm
  clear hp hm hEb
  go_enter Try.func27, Try.ntmps27
  go_wp2
  go_loop [3, 5, 11] (fun z _ i => ∃ k : Nat, k ≤ ls.length ∧ i = .int .i64 k ∧ z = .int .i64 ((ls.take k).flatten.length : Nat)) (fun _ _ i => ls.length - (intOf i).toNat)
  case atStart => exact ⟨0, by omega, rfl, rfl⟩
  case round =>
    obtain ⟨k, hk, rfl, rfl⟩ := hrel
    by_cases hlt : k < ls.length
    · obtain ⟨b, o, rfl, hc⟩ := HP.out.cells (by omega)
      obtain ⟨a, cap, hcell, hbytes⟩ := hc k hlt
      have hsum := sum_take ls hlt
      have hb1 := HF.out (k + 1)
      clear hc hbytes
      generalize hz : (ls.take (k + 1)).flatten.length = z1 at hsum hb1
      generalize (ls.take k).flatten.length = z0 at hsum
      generalize (partOf ls k).length = m at hsum hcell
      have HZ := Lib.hid (show (ls.take (k + 1)).flatten.length = z0 + m from hz.trans hsum)
      clear hz
      have hd : decide (((z0 : Int) + (m : Int)) < 0) = false := by simp; omega
      go_wp2
      go_round
      case rel => exact ⟨k + 1, by omega, by go_num, by rw [HZ.out]; go_num⟩
      case measure => simp [intOf]; omega
    · obtain rfl : k = ls.length := by omega
      rw [List.take_length]
      have hN := HM.out
      generalize hz : ls.flatten.length = N at hN
      have HZ := Lib.hid hz
      clear hz
      have hg := grow8_any N (by omega) w
      go_wp2_with fail
      refine hg.mono ?_
      rintro e _ ⟨v0, rfl, s0, rfl⟩
      clear hg
      go_wp2
      go_loopw [6, 8, 27] (fun v _ i wr => ∃ k : Nat, k ≤ ls.length ∧ i = .int .i64 k ∧ ∃ s : OwnW w 5 v ((ls.take k).flatten.map (Value.int .u8)), wr = s.w) (fun _ _ i _ => ls.length - (intOf i).toNat)
      case atStart => exact ⟨0, by omega, rfl, s0, rfl⟩
      case round =>
        clear s0
        obtain ⟨k, hk, rfl, s, rfl⟩ := hrel
        by_cases hlt : k < ls.length
        · obtain ⟨b, o, rfl, hc⟩ := HP.out.cells (by omega)
          obtain ⟨a, cap, hcell0, hbytes⟩ := hc k hlt
          have hbk := World.block_lt_of_cell? w _ hcell0
          have hcell : s.w.cell? ⟨b, o + k, none⟩ = some (.slice a (partOf ls k).length cap) := by rw [s.below.cell (p := ⟨b, o + k, none⟩) hbk, hcell0]
          have hb2 := hbytes.below s.below
          have hsum := sum_take ls hlt
          have hb1 := HF.out (k + 1)
          have HN := Lib.hid (hb2.nil2 (n := (partOf ls k).length) rfl)
          have HSRC := Lib.hid hb2.news
          have HML := Lib.hid (show (partOf ls k).length = ((partOf ls k).map (Value.int .u8)).length from (List.length_map _).symm)
          have HLN := Lib.hid (show ((((ls.take k).flatten.map (Value.int .u8)).length + ((partOf ls k).map (Value.int .u8)).length) * E.bytes ≤ 140737488355328 ∧ ((ls.take k).flatten.map (Value.int .u8)).length + ((partOf ls k).map (Value.int .u8)).length ≤ maxLen) from by
            rw [List.length_map, List.length_map, HEB.out]; unfold maxLen; omega)
          have HX := Lib.hid (show (ls.take k).flatten.map (Value.int .u8) ++ (partOf ls k).map (Value.int .u8) = (ls.take (k + 1)).flatten.map (Value.int .u8) by rw [← List.map_append, ← take_flat ls hlt])
          clear hc hcell0 hbk hb2 hbytes hsum hb1
          generalize partOf ls k = l at hcell HN HSRC HML HLN HX
          go_wp2_with (refine wpList_append_srcB E s (l.map (Value.int .u8)) (.tmp 31) (.tmp 32) rfl rfl rfl a l.length cap HML.out rfl HN.out HSRC.out (one_bytes _) HLN.out.1 HLN.out.2 ?_; intro v' s2)
          go_roundw
          case rel => exact ⟨k + 1, by omega, by go_num, s2.as HX.out, rfl⟩
          case measure => simp [intOf]; omega
        · obtain rfl : k = ls.length := by omega
          have HT := Lib.hid (show (ls.take ls.length).flatten.map (Value.int .u8) = ls.flatten.map (Value.int .u8) by rw [List.take_length])
          go_wp2
          go_ret
          exact ⟨_, rfl, s.as HT.out, rfl⟩
end Go.Proofs.Ytefonhnidkfbgaa

/- Bytes are appended to an empty slice without room: a new slice of its own. -/
namespace Go.Proofs.Ytefonhnidkfbgaa
open Go.RowKit
set_option linter.unusedVariables false

/-- An empty slice without room. -/
def IsE : Value → World → Prop := fun v _ => ∃ p, v = .slice p 0 0
theorem stable_E : Stable (fun W W' => Below W.heap.size W W') IsE := fun v w w' h _ => h

theorem run_append_fresh {W : World} {A : Option Addr} {Q : List Int} {c m : Nat} (hm : Q.length = m) (hb : BytesIn W A Q c) (h0 : 0 < m) (hmx : m ≤ 140737488355328) {base : Nat} (hbase : base ≤ W.heap.size) (p : Option Addr) (ty : TypeId) :
    ∃ v' W', (Builtin.append_ #[22, 22] ty #[.slice p 0 0, .slice A m c]).run Try.prog W = .ok v' W' ∧ IsOwn base (fun v => v) Q v' W' ∧ Below W.heap.size W W' := by
  obtain ⟨E, hE⟩ := elem8
  subst hm
  obtain ⟨b, o, rfl, hc⟩ := hb.cells h0
  have hold : (Builtin.firstCells E.i.size 0 (.slice p 0 0)).run Try.prog W.drew = .ok ([] : List Value).toArray W.drew := by
    cases p with
    | none => exact run_firstCells_none W.drew E.i.size 0 0 0
    | some q => exact run_firstCells_some W.drew E.i.size 0 q 0 0 [] (by simp) (fun j v hj => by simp at hj)
  have hsrc := _root_.Go.Src.ofSlice (P := Try.prog) W (size := E.i.size) (tx := 22) Try.underlying22 ⟨b, o, none⟩ Q.length c (Q.map (Value.int .u8)) (by rw [List.length_map, E.hsize, Nat.mul_one]) (hb.news _ rfl) (one_bytes _)
  have hrun := run_append_grow_src (P := Try.prog) W 22 22 ty 5 E.i E.z E.ht E.hi E.hz p 0 0 [] hold _ Q.length _ hsrc (by omega) (by omega) (growslice_fits (by omega) (by rw [E.hby, hE]; omega))
  rw [Nat.zero_add] at hrun
  have hG := grownCap_ge W Q.length 0 5
  have hG2 := grownCap_le_maxLen W Q.length 0 5 (by unfold maxLen; omega)
  generalize grownCap W Q.length 0 5 = G at hrun hG hG2
  refine ⟨_, _, hrun, ⟨_, G, rfl, by rw [List.length_map]; omega, .inr ⟨W.heap.size, G, _, rfl, hbase, heap_alloc_new W.drew _, hG, hG2, ?_, ?_⟩⟩, (Below.refl _ W).drew.alloc (Nat.le_refl _) _⟩
  · simp only [List.nil_append, Array.size_append, List.size_toArray, size_zeroCells, E.hzs, List.length_map]
    omega
  · simp only [List.nil_append, Array.toList_append, Nat.mul_one]
    rw [show Q.length = (Q.map (Value.int .u8)).length by rw [List.length_map]]
    exact List.take_left
end Go.Proofs.Ytefonhnidkfbgaa

/- Literal and Clone of package command; parts of a Literal. -/
namespace Go.Proofs.Ytefonhnidkfbgaa
open Go.RowKit Go.Shelf Go.Proofs.Ytefonhnidkfbgaa.Plain01
set_option linter.unusedVariables false
set_option linter.unusedSimpArgs false

theorem cutb_lh {w : World} {a : Option Addr} {l : List Int} {cap : Nat} (h : BytesIn w a l cap) (lo hi : Nat) (h1 : lo ≤ hi) (h2 : hi ≤ l.length) :
    ∃ A, (∀ W, (Instr.slice 22 (.slice a l.length cap) (some (.int .i64 (lo : Int))) (some (.int .i64 (hi : Int))) none).run Try.prog W = .ok (.slice A (hi - lo) (cap - lo)) W) ∧ BytesIn w A ((l.drop lo).take (hi - lo)) (cap - lo) := by
  have hlen : ((l.drop lo).take (hi - lo)).length = hi - lo := by rw [List.length_take, List.length_drop]; omega
  refine ⟨if cap = lo then a else a.map (·.add (lo * 1)), fun W => ?_, by rw [hlen]; have := h.len; omega, by have := h.capb; omega, fun hp => ?_, fun h0 => ?_⟩
  · rw [run_slice_lh (P := Try.prog) W 22 a l.length cap (by kernel_rfl) .i64 .i64 (lo : Int) (hi : Int) (by omega) (by omega) (by have := h.len; omega), size_u8]
    simp only [Result.andThen_ok, sliced, Int.toNat_natCast]
  · rw [hlen] at hp
    obtain ⟨b, o, rfl, hc⟩ := h.cells (by omega)
    have := h.len
    rw [if_neg (by omega)]
    refine ⟨b, o + lo, by simp [Addr.add_mid], fun i hi => ?_⟩
    rw [hlen] at hi
    rw [Nat.add_assoc, hc (lo + i) (by omega), List.getElem?_take, if_pos (by omega), List.getElem?_drop]
  · by_cases hc : cap = lo
    · omega
    · rw [if_neg hc] at h0
      cases a with
      | none => have := h.nil rfl; omega
      | some ad => cases h0

theorem own_setCell {w : World} {base b : Nat} {e : TypeId} {v : Value} {n : Nat} {xs : List Value} (h : w.ownsRow base e 1 v n xs) (hb : b < base) (i : Nat) (u : Value) : (w.setCell ⟨b, i, none⟩ u).ownsRow base e 1 v n xs :=
  ⟨h.1, h.2.imp id fun ⟨g, cap, cur, h1, h2, h3, h4⟩ => ⟨g, cap, cur, h1, h2, (Below.heap_setCell _ _ _ _ (by simp only; omega)).trans h3, h4⟩⟩
/-- Five cells of a block ahead of a new slice are written. -/
theorem OwnW.under {w0 w1 : World} {e : TypeId} {v : Value} {xs : List Value} (s : OwnW w1 e v xs) (hB : Below w0.heap.size w0 w1) {b : Nat} (hb0 : w0.heap.size ≤ b) (hb1 : b < w1.heap.size) (v0 v1 v2 v3 v4 : Value) :
    ∃ s' : OwnW w0 e v xs, ((((s.w.setCell ⟨b, 0, none⟩ v0).setCell ⟨b, 1, none⟩ v1).setCell ⟨b, 2, none⟩ v2).setCell ⟨b, 3, none⟩ v3).setCell ⟨b, 4, none⟩ v4 = s'.w :=
  ⟨⟨_, below_put5 (hB.trans (s.below.mono hB.size)) hb0 _ _ _ _ _, (own_setCell (own_setCell (own_setCell (own_setCell (own_setCell s.own hb1 _ _) hb1 _ _) hb1 _ _) hb1 _ _) hb1 _ _).mono hB.size⟩, rfl⟩
theorem OwnW.under6 {w0 w1 : World} {e : TypeId} {v : Value} {xs : List Value} (s : OwnW w1 e v xs) (hB : Below w0.heap.size w0 w1) {b c : Nat} (hb0 : w0.heap.size ≤ b) (hb1 : b < w1.heap.size) (hc0 : w0.heap.size ≤ c) (hc1 : c < w1.heap.size) (i : Nat) (u v0 v1 v2 v3 v4 : Value) :
    ∃ s' : OwnW w0 e v xs, (((((s.w.setCell ⟨c, i, none⟩ u).setCell ⟨b, 0, none⟩ v0).setCell ⟨b, 1, none⟩ v1).setCell ⟨b, 2, none⟩ v2).setCell ⟨b, 3, none⟩ v3).setCell ⟨b, 4, none⟩ v4 = s'.w :=
  ⟨⟨_, below_put5 ((hB.trans (s.below.mono hB.size)).setCell (p := ⟨c, i, none⟩) hc0 _) hb0 _ _ _ _ _, (own_setCell (own_setCell (own_setCell (own_setCell (own_setCell (own_setCell s.own hc1 _ _) hb1 _ _) hb1 _ _) hb1 _ _) hb1 _ _) hb1 _ _).mono hB.size⟩, rfl⟩
theorem OwnW.lift {w0 w1 : World} {e : TypeId} {v : Value} {xs : List Value} (s : OwnW w1 e v xs) (hB : Below w0.heap.size w0 w1) : ∃ s' : OwnW w0 e v xs, s.w = s'.w :=
  ⟨⟨s.w, hB.trans (s.below.mono hB.size), s.own.mono hB.size⟩, rfl⟩

theorem parts_one {w : World} {b m c : Nat} {A : Option Addr} {Q : List Int} {t : TypeId} {fr : Nat × Nat} (h : w.heap[b]? = some (.cells #[.slice A m c] t fr)) (hQ : Q.length = m) (hA : BytesIn w A Q c) : PartsIn w (some ⟨b, 0, none⟩) [Q] :=
  ⟨by simp, fun _ => ⟨b, 0, rfl, fun i hi => by
    obtain rfl : i = 0 := by simp at hi; omega
    subst hQ
    exact ⟨A, c, by rw [cell_of_row w b _ _ _ _ h]; rfl, hA⟩⟩⟩

/-- It returns a value that holds a new slice of its own. -/
def MakesC (mk : Value → Value) (l : List Int) (w : World) (en : Ending) (w' : World) : Prop := ∃ v, en = .returned (mk v) ∧ ∃ s : OwnW w 5 v (l.map (Value.int .u8)), w' = s.w

/-- A listed block, behind a callee that makes a slice. -/
theorem OwnW.cmdF {w1 : World} {e : TypeId} {v : Value} {xs : List Value} (s : OwnW w1 e v xs) {b : Nat} {k t f n : Int} {u : Value} (h : w1.heap[b]? = some (cmdO k t f n u)) :
    s.w.cell? ⟨b, 0, none⟩ = some (.int .i64 k) ∧ s.w.cell? ⟨b, 1, none⟩ = some (.int .i64 t) ∧ s.w.cell? ⟨b, 2, none⟩ = some (.int .i64 f) ∧ s.w.cell? ⟨b, 3, none⟩ = some (.int .i64 n) ∧ s.w.cell? ⟨b, 4, none⟩ = some u ∧ ∀ i, s.w.frozen? ⟨b, i, none⟩ = false := by
  have h' := heap_below h s.below
  obtain ⟨h0, h1, h2, h3, h4⟩ := cmd_cells h'
  exact ⟨h0, h1, h2, h3, h4, fun i => free_of h' i⟩

end Go.Proofs.Ytefonhnidkfbgaa

/- CommandParts returns true for every command and extent, and changes nothing that was there. -/
namespace Go.Proofs.Ytefonhnidkfbgaa
open Go.RowKit Go.Shelf Go.Proofs.Ytefonhnidkfbgaa.Plain01
set_option linter.unusedVariables false
set_option linter.unusedSimpArgs false

/-- The cells of a boxed command, in whatever later world. -/
theorem cmd_later {w1 : World} {b : Nat} {k t f n : Int} {v : Value} (h : w1.heap[b]? = some (cmdO k t f n v)) : ∀ W, Below w1.heap.size w1 W →
    W.cell? ⟨b, 0, none⟩ = some (.int .i64 k) ∧ W.cell? ⟨b, 1, none⟩ = some (.int .i64 t) ∧ W.cell? ⟨b, 2, none⟩ = some (.int .i64 f) ∧ W.cell? ⟨b, 3, none⟩ = some (.int .i64 n) ∧ W.cell? ⟨b, 4, none⟩ = some v := fun W hW => cmd_cells (heap_below h hW)
theorem IsOwn.bytes {base : Nat} {mk : Value → Value} {Q : List Int} {v : Value} {W : World} (h : IsOwn base mk Q v W) (hb : base ≤ W.heap.size) : ∃ A C, v = mk (.slice A Q.length C) ∧ BytesIn W A Q C := by
  obtain ⟨A, C, hv, h1, h2⟩ := h
  refine ⟨A, C, hv, ?_⟩
  rcases h2 with ⟨h3, h0⟩ | ⟨g, cap, cur, h3, hg, hbk, hc, hm, hs, ht⟩
  · have h4 := List.eq_nil_of_length_eq_zero h0
    subst h4
    simp at h3
    obtain ⟨rfl, rfl⟩ := h3
    exact bytes_nil W
  · simp at h3
    obtain ⟨rfl, rfl⟩ := h3
    refine ⟨hc, by unfold maxLen at hm; omega, fun hp => ⟨g, 0, rfl, fun i hi => ?_⟩, fun h => by cases h⟩
    rw [Nat.zero_add, cell_of hbk]
    have : (cur.toList.take (Q.length * 1))[i]? = (Q.map (Value.int .u8))[i]? := by rw [ht]
    rw [List.getElem?_take, if_pos (by omega), List.getElem?_map, List.getElem?_eq_getElem hi] at this
    rw [List.getElem?_eq_getElem hi]
    simpa using this

/-- Bytes in a block that is known whole. -/
theorem bytes_block {W : World} {g C m : Nat} {cur : Array Value} {Q : List Int} {t : TypeId} {fr : Nat × Nat} (h : W.heap[g]? = some (.cells cur t fr)) (hQ : Q.length = m) (h1 : m ≤ C) (h2 : C ≤ 9223372036854775807) (hc : ∀ (j : Nat) (u : Value), (Q.map (Value.int .u8))[j]? = some u → cur[j]? = some u) : BytesIn W (some ⟨g, 0, none⟩) Q C :=
  ⟨by omega, h2, fun hp => ⟨g, 0, rfl, fun i hi => by
    rw [Nat.zero_add, cell_of_row W g _ _ _ _ h]
    exact hc i _ (by rw [List.getElem?_map, List.getElem?_eq_getElem hi]; rfl)⟩, fun h => by cases h⟩

end Go.Proofs.Ytefonhnidkfbgaa

/- With of the reference. delta.With: the same lengths and digests, other commands, in memory of their own. delta.With, walked. -/
namespace Go.Proofs.Ytefonhnidkfbgaa
open Go.RowKit Go.Shelf Go.Proofs.Ytefonhnidkfbgaa.Plain01
set_option linter.unusedVariables false
set_option linter.unusedSimpArgs false

def zeros32 : List Int := List.replicate 32 0
def zeroDel : Array Value := deltaA 0 0 zeros32 zeros32 (.slice none 0 0)
theorem zero_delta (w : World) : (zeroValue 27).run Try.prog w = .ok (.agg zeroDel) w := by kernel_rfl
theorem zeroDel_of : DeltaOf zeroDel 0 0 zeros32 zeros32 (.slice none 0 0) := ⟨rfl, rfl, rfl⟩
theorem DeltaOf.set {D : Array Value} {o n : Int} {x y : List Int} {s : Value} (h : DeltaOf D o n x y s) (v : Value) : DeltaOf (D.setIfInBounds 66 v) o n x y v := by
  refine ⟨?_, h.xl, h.yl⟩
  rw [h.eq]
  unfold deltaA deltaL
  simp [List.set_append, h.xl, h.yl]
theorem DeltaOf.one {D : Array Value} {o n : Int} {x y : List Int} {s : Value} (h : DeltaOf D o n x y s) (hs : s.oneCell' = true) : D.all (·.oneCell') = true := by
  rw [h.eq, Array.all_eq_true_iff_forall_mem]
  intro v hv
  unfold deltaA deltaL at hv
  simp only [List.mem_toArray, List.mem_cons, List.mem_append, List.mem_map, List.not_mem_nil, or_false] at hv
  rcases hv with rfl | rfl | ⟨_, _, rfl⟩ | ⟨_, _, rfl⟩ | rfl
  · rfl
  · rfl
  · rfl
  · rfl
  · exact hs

end Go.Proofs.Ytefonhnidkfbgaa

namespace Go.Proofs.Ytefonhnidkfbgaa
open Go.RowKit Go.Shelf Go.Proofs.Ytefonhnidkfbgaa.Plain01
set_option linter.unusedVariables false
set_option linter.unusedSimpArgs false

abbrev rowC (R : Array Value) : Obj := .cells R 58 (0, 0)
def zeroCmd : Array Value := #[.int .i64 0, .int .i64 0, .int .i64 0, .int .i64 0, .slice none 0 0]
theorem make_cmds (k : Nat) (hk : k ≤ 1000000) (w : World) : (Instr.makeSlice 25 (.int .i64 (k : Int)) (.int .i64 (k : Int))).run Try.prog w = .ok (.slice (some ⟨w.heap.size, 0, none⟩) k k) (w.alloc (rowC (madeCells zeroCmd (k * 5)))) := by
  have hi : ∃ i, Try.prog.info? 58 = some i ∧ i.zero = some (.agg zeroCmd) ∧ i.size = 5 ∧ i.bytes = 56 := by
    have h : (Try.prog.info? 58).map (fun i => (i.zero, i.size, i.bytes)) = some (some (.agg zeroCmd), 5, 56) := by kernel_rfl
    obtain ⟨i, hi, he⟩ := Option.map_eq_some_iff.1 h
    simp only [Prod.mk.injEq] at he
    exact ⟨i, hi, he.1, he.2.1, he.2.2⟩
  obtain ⟨i, hi, hz, hs, hb⟩ := hi
  rw [run_make w 25 58 i _ Try.underlying25 hi hz .i64 .i64 k k (by omega) (by omega) (by rw [hb]; omega) (by omega)]
  rw [hs, Int.toNat_natCast]
  rfl

/-- A slice that stands away from the blocks below B. -/
def Apart (B : Nat) (a : Option Addr) : Prop := ∀ ad, a = some ad → B ≤ ad.block
theorem BytesIn.apart {w w' : World} {a : Option Addr} {l : List Int} {cap B : Nat} (h : BytesIn w a l cap) (ha : Apart B a) (hk : ∀ k, B ≤ k → k < w.heap.size → w'.heap[k]? = w.heap[k]?) : BytesIn w' a l cap :=
  ⟨h.len, h.capb, fun hp => by
    obtain ⟨b, o, rfl, hc⟩ := h.cells hp
    refine ⟨b, o, rfl, fun i hi => ?_⟩
    have h1 := hc i hi
    have hb := World.block_lt_of_cell? _ _ h1
    rw [World.cell?_of_block (w := w) (w' := w') (hk b (ha _ rfl) hb)]
    exact h1, h.nil⟩
theorem CmdOK.apart {w w' : World} {c : Cmd} {B : Nat} (h : CmdOK w c) (ha : Apart B c.a) (hk : ∀ k, B ≤ k → k < w.heap.size → w'.heap[k]? = w.heap[k]?) : CmdOK w' c := ⟨h.k, h.t, h.f, h.n, h.b.apart ha hk, h.o⟩

/-- The first commands lie in a row. -/
def RowHas (R : Array Value) (ds : List Cmd) : Prop := ∀ (i : Nat) (c : Cmd), ds[i]? = some c → ∀ (j : Nat) (u : Value), c.cells[j]? = some u → R[i * 5 + j]? = some u
/-- Five cells are written. -/
def put5A (R : Array Value) (p : Nat) (v0 v1 v2 v3 v4 : Value) : Array Value := ((((R.setIfInBounds p v0).setIfInBounds (p + 1) v1).setIfInBounds (p + 2) v2).setIfInBounds (p + 3) v3).setIfInBounds (p + 4) v4
theorem put5A_size (R : Array Value) (p : Nat) (v0 v1 v2 v3 v4 : Value) : (put5A R p v0 v1 v2 v3 v4).size = R.size := by simp [put5A]
theorem put5A_get (R : Array Value) (p : Nat) (v0 v1 v2 v3 v4 : Value) (hp : p + 5 ≤ R.size) (i : Nat) : (put5A R p v0 v1 v2 v3 v4)[i]? = if i = p then some v0 else if i = p + 1 then some v1 else if i = p + 2 then some v2 else if i = p + 3 then some v3 else if i = p + 4 then some v4 else R[i]? := by
  unfold put5A
  simp only [Array.getElem?_setIfInBounds, Array.size_setIfInBounds]
  by_cases h0 : i = p
  · subst h0; simp; omega
  · by_cases h1 : i = p + 1
    · subst h1; simp; omega
    · by_cases h2 : i = p + 2
      · subst h2; simp; omega
      · by_cases h3 : i = p + 3
        · subst h3; simp; omega
        · by_cases h4 : i = p + 4
          · subst h4; simp; omega
          · rw [if_neg (Ne.symm h4), if_neg (Ne.symm h3), if_neg (Ne.symm h2), if_neg (Ne.symm h1), if_neg (Ne.symm h0), if_neg h0, if_neg h1, if_neg h2, if_neg h3, if_neg h4]
theorem rowHas_snoc {R : Array Value} {ds : List Cmd} {d : Cmd} (h : RowHas R ds) (hp : ds.length * 5 + 5 ≤ R.size) : RowHas (put5A R (ds.length * 5) (.int .i64 d.k) (.int .i64 d.t) (.int .i64 d.f) (.int .i64 d.n) (.slice d.a d.l.length d.cap)) (ds ++ [d]) := by
  intro i c hc j u hu
  have hj : j < 5 := by have := (List.getElem?_eq_some_iff.1 hu).1; simpa [Cmd.cells] using this
  rw [put5A_get _ _ _ _ _ _ _ hp]
  by_cases hi : i < ds.length
  · rw [List.getElem?_append_left hi] at hc
    rw [if_neg (by omega), if_neg (by omega), if_neg (by omega), if_neg (by omega), if_neg (by omega)]
    exact h i c hc j u hu
  · have hil : i = ds.length := by
      have := (List.getElem?_eq_some_iff.1 hc).1
      simp at this; omega
    subst hil
    simp at hc
    subst hc
    match j, hj with
    | 0, _ => simp [Cmd.cells] at hu; subst hu; rw [if_pos (by omega)]
    | 1, _ => simp [Cmd.cells] at hu; subst hu; rw [if_neg (by omega), if_pos rfl]
    | 2, _ => simp [Cmd.cells] at hu; subst hu; rw [if_neg (by omega), if_neg (by omega), if_pos rfl]
    | 3, _ => simp [Cmd.cells] at hu; subst hu; rw [if_neg (by omega), if_neg (by omega), if_neg (by omega), if_pos rfl]
    | 4, _ => simp [Cmd.cells] at hu; subst hu; rw [if_neg (by omega), if_neg (by omega), if_neg (by omega), if_neg (by omega), if_pos rfl]

def WithPost (o n : Int) (x y : List Int) (cs : List Cmd) (w : World) (e : Ending) (w' : World) : Prop :=
  ∃ (D' : Array Value) (g : Nat) (ds : List Cmd), e = .returned (.agg D') ∧ DeltaOf D' o n x y (.slice (some ⟨g, 0, none⟩) ds.length ds.length) ∧ CmdsIn w' (some ⟨g, 0, none⟩) ds ds.length ∧ cores ds = cores cs ∧ Below w.heap.size w w'

/-- The same, and that the memory of the new ones is their own. -/
def WithPost2 (o n : Int) (x y : List Int) (cs : List Cmd) (w : World) (e : Ending) (w' : World) : Prop :=
  ∃ (D' : Array Value) (g : Nat) (ds : List Cmd), e = .returned (.agg D') ∧ DeltaOf D' o n x y (.slice (some ⟨g, 0, none⟩) ds.length ds.length) ∧ CmdsIn w' (some ⟨g, 0, none⟩) ds ds.length ∧ cores ds = cores cs ∧ Below w.heap.size w w' ∧ w.heap.size ≤ g ∧ ∀ c ∈ ds, Apart w.heap.size c.a

/-- Five stores into a listed row. -/
theorem HeldW.put5 {w0 : World} {g : Nat} {R : Array Value} {bs : List (Nat × Obj)} (s : HeldW w0 ((g, rowC R) :: bs)) (hb : w0.heap.size ≤ g) (hne : ∀ p ∈ bs, p.1 ≠ g) (p : Nat) (v0 v1 v2 v3 v4 : Value) :
    ∃ S : HeldW w0 ((g, rowC (put5A R p v0 v1 v2 v3 v4)) :: bs), ((((s.w.setCell ⟨g, p, none⟩ v0).setCell ⟨g, p + 1, none⟩ v1).setCell ⟨g, p + 2, none⟩ v2).setCell ⟨g, p + 3, none⟩ v3).setCell ⟨g, p + 4, none⟩ v4 = S.w :=
  ⟨((((s.store (i := p) (v := v0) hb hne rfl).store (i := p + 1) (v := v1) hb hne rfl).store (i := p + 2) (v := v2) hb hne rfl).store (i := p + 3) (v := v3) hb hne rfl).store (i := p + 4) (v := v4) hb hne rfl, rfl⟩
theorem put5_others (w : World) (g p : Nat) (v0 v1 v2 v3 v4 : Value) (k : Nat) (hk : k ≠ g) : (((((w.setCell ⟨g, p, none⟩ v0).setCell ⟨g, p + 1, none⟩ v1).setCell ⟨g, p + 2, none⟩ v2).setCell ⟨g, p + 3, none⟩ v3).setCell ⟨g, p + 4, none⟩ v4).heap[k]? = w.heap[k]? := by
  rw [Below.heap_setCell _ _ _ _ hk, Below.heap_setCell _ _ _ _ hk, Below.heap_setCell _ _ _ _ hk, Below.heap_setCell _ _ _ _ hk, Below.heap_setCell _ _ _ _ hk]
end Go.Proofs.Ytefonhnidkfbgaa

namespace Go.Proofs.Ytefonhnidkfbgaa
open Go.RowKit Go.Shelf Go.Proofs.Ytefonhnidkfbgaa.Plain01
set_option linter.unusedVariables false
set_option linter.unusedSimpArgs false

theorem own_apart {W : World} {base n C : Nat} {A : Option Addr} {xs : List Value} (h : W.ownsRow base 5 1 (.slice A n C) n xs) : Apart base A := fun ad had => by
  rcases h.2 with ⟨h1, _⟩ | ⟨g, cap, cur, h1, h2, _⟩
  · simp only [Value.slice.injEq] at h1
    rw [h1.1] at had; cases had
  · simp only [Value.slice.injEq] at h1
    rw [h1.1] at had; cases had; exact h2
theorem own_bytesIn {w1 W : World} {A : Option Addr} {C : Nat} {l : List Int} (hb : Below w1.heap.size w1 W) (h : W.ownsRow w1.heap.size 5 1 (.slice A l.length C) l.length (l.map (Value.int .u8))) : BytesIn W A l C := by
  obtain ⟨a, cap, e, hi⟩ := OwnW.bytes (w0 := w1) (e := 5) (v := .slice A l.length C) (l := l) ⟨W, hb, by rw [List.length_map]; exact h⟩
  simp only [Value.slice.injEq] at e
  obtain ⟨rfl, _, rfl⟩ := e
  exact hi

end Go.Proofs.Ytefonhnidkfbgaa

/- delta.Find; slices.IndexFunc over commands. -/
namespace Go.Proofs.Ytefonhnidkfbgaa
open Go.RowKit Go.Shelf Go.Proofs.Ytefonhnidkfbgaa.Plain01
set_option linter.unusedVariables false
set_option linter.unusedSimpArgs false

abbrev boxI (x : Int) : Obj := .cells #[.int .i64 x] 3 (0, 0)

set_option maxRecDepth 100000 in
set_option maxHeartbeats 4000000 in
theorem indexFunc_any (cb : Nat) (lb : Array Value) (ca : Option Addr) (cs : List Cmd) (ccap : Nat) (x : Int) (w : World) (h : CmdsIn w ca cs ccap) (eg : ∀ args w, (callFunc cb args).run Try.prog w = .ok (.enter cb args) w)
    (hf : ∀ (s : HeldW w []) (c : Cmd), c ∈ cs → Calls Try.prog cb (#[cmdW c] ++ lb) s.w (Gives (.bool (decide (c.has x))) s.w)) : Calls Try.prog 51 #[.slice ca cs.length ccap, .func (.func cb) #[] lb] w (Gives (.int .i64 (findOf cs x)) w) := by
  have hpost : Hid (∀ (r : Int) (s : HeldW w []), FindAt cs x r → Gives (.int .i64 (findOf cs x)) w (.returned (.int .i64 r)) s.w) := Lib.hid fun r s hr => by
    rw [findOf_eq hr]; exact ⟨rfl, s.below⟩
  have HC := Lib.hid h
  have HF := Lib.hid hf
  obtain ⟨L, hLe⟩ : ∃ L, L = cs.length := ⟨_, rfl⟩
  have HL := Lib.hid hLe
  have hLcap : L ≤ ccap := by rw [hLe]; exact h.len
  have hccap := h.capb
  rw [← hLe]
  generalize Gives (.int .i64 (findOf cs x)) w = POST at hpost ⊢
  clear h hf hLe
  go_enter Try.func51, Try.ntmps51
  go_wp2
  go_loopw [8] (fun v wr => ∃ k : Nat, k ≤ L ∧ v = .int .i64 k ∧ Hid (∀ (j : Nat) (d : Cmd), j < k → cs[j]? = some d → ¬ d.has x) ∧ ∃ s : HeldW w [], wr = s.w) (fun v _ => L - (intOf v).toNat)
  case atStart => exact ⟨0, by omega, rfl, Lib.hid (fun j d hj => by omega), HeldW.start w, rfl⟩
  case round =>
    obtain ⟨k, hk, rfl, hf, s, rfl⟩ := hrel
    by_cases hlt : k < L
    · obtain ⟨c, hc⟩ : ∃ c, cs[k]? = some c := ⟨_, List.getElem?_eq_getElem (by rw [← HL.out]; exact hlt)⟩
      obtain ⟨b, oo, rfl, x0, x1, x2, x3, x4⟩ := (HC.out.W s).at hc
      have hcc := HF.out s c (List.mem_of_getElem? hc)
      have HCC := Lib.hid hc
      clear hc
      by_cases hh : c.has x
      · have hT : Hid (FindAt cs x k) := Lib.hid ⟨fun h => by omega, fun _ => ⟨k, c, rfl, HCC.out, hh, hf.out⟩⟩
        rw [decide_eq_true hh] at hcc
        clear hh
        go_wp2_with (go_at_fn cb; refine (HeldW.call hcc).mono ?_; rintro e _ ⟨rfl, s2, rfl⟩)
        exact hpost.out _ s2 hT.out
      · have hstep : Hid (∀ (j : Nat) (d : Cmd), j < k + 1 → cs[j]? = some d → ¬ d.has x) := Lib.hid fun j d hj hd => by
          by_cases e : j = k
          · subst e; rw [HCC.out] at hd; cases hd; exact hh
          · exact hf.out j d (by omega) hd
        rw [decide_eq_false hh] at hcc
        clear hh
        go_wp2_with (go_at_fn cb; refine (HeldW.call hcc).mono ?_; rintro e _ ⟨rfl, s2, rfl⟩)
        go_roundw
        case rel => exact ⟨k + 1, by omega, by go_num, hstep, s2, rfl⟩
        case measure => simp [intOf]; omega
    · obtain rfl : k = L := by omega
      have hT : Hid (FindAt cs x (-1)) := Lib.hid ⟨fun _ c hc => by
        obtain ⟨j, hj⟩ := List.getElem?_of_mem hc
        exact hf.out j c (by rw [HL.out]; exact (List.getElem?_eq_some_iff.1 hj).1) hj, fun h => absurd rfl h⟩
      go_wp2
      exact hpost.out _ s hT.out

end Go.Proofs.Ytefonhnidkfbgaa
