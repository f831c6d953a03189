/- Readers of package wire: their blocks; left, ready, At, Rest, Fault, Fail, pass. -/
import Derived.LoopTactic
import Derived.BigQuiet
import Derived.Deep.QuietTactic
import Derived.Great.BuildSlice
import Derived.Shelf.Abstract
import Derived.Test.Ytclalbiggnalfaa00Clone8
import Derived.Test.Ytclalbiggnalfaa02Base
namespace Go.Proofs.Ytclalbiggnalfaa
open Go.RowKit
set_option linter.unusedVariables false
set_option linter.unusedSimpArgs false

/-- The block of a reader: the offset n, the length L, the bytes, the code and the place of the fault. -/
abbrev rdO (n L : Nat) (da : Option Addr) (dcap : Nat) (c p : Int) : Obj := .cells #[.int .i64 n, .int .i64 L, .slice da L dcap, .int .i64 c, .int .i64 p] 62 (0, 0)

/-- Its five cells. -/
theorem rd_cells {w : World} {g n L dcap : Nat} {da : Option Addr} {c p : Int} (h : w.heap[g]? = some (rdO n L da dcap c p)) :
    w.cell? ⟨g, 0, none⟩ = some (.int .i64 n) ∧ w.cell? ⟨g, 1, none⟩ = some (.int .i64 L) ∧ w.cell? ⟨g, 2, none⟩ = some (.slice da L dcap) ∧ w.cell? ⟨g, 3, none⟩ = some (.int .i64 c) ∧ w.cell? ⟨g, 4, none⟩ = some (.int .i64 p) :=
  ⟨by rw [cell_of h]; rfl, by rw [cell_of h]; rfl, by rw [cell_of h]; rfl, by rw [cell_of h]; rfl, by rw [cell_of h]; rfl⟩
theorem rd_cellsW {w0 : World} {g n L dcap : Nat} {da : Option Addr} {c p : Int} (h : w0.heap[g]? = some (rdO n L da dcap c p)) (s : HeldW w0 []) :
    s.w.cell? ⟨g, 0, none⟩ = some (.int .i64 n) ∧ s.w.cell? ⟨g, 1, none⟩ = some (.int .i64 L) ∧ s.w.cell? ⟨g, 2, none⟩ = some (.slice da L dcap) ∧ s.w.cell? ⟨g, 3, none⟩ = some (.int .i64 c) ∧ s.w.cell? ⟨g, 4, none⟩ = some (.int .i64 p) :=
  rd_cells (heap_below h s.below)

theorem left_any (g n L dcap : Nat) (da : Option Addr) (c p : Int) (w : World) (h : w.heap[g]? = some (rdO n L da dcap c p)) (hn : n ≤ L) (hL : L ≤ 9223372036854775807) :
    Calls Try.prog 28 #[.pointer (some ⟨g, 0, none⟩)] w (Gives (.int .i64 ((L : Int) - n)) w) := by
  have c0 := fun s : HeldW w [] => (rd_cellsW h s).1
  have c1 := fun s : HeldW w [] => (rd_cellsW h s).2.1
  obtain ⟨H⟩ : Nonempty (HeldW w []) := ⟨HeldW.start w⟩
  clear h
  go_enter Try.func28, Try.ntmps28
  go_wp2
  refine wp_region_class w [] (by kernel_rfl) (by kernel_rfl) (Below.refl _ _) (by simp) (fun hne => ?_)
  clear H
  repeat (go_big_quiet_step (fail))
  refine wpQuiet_nil ?_
  rintro _ ⟨s, rfl⟩
  clear hne c0 c1
  go_wp2
  go_ret
  exact ⟨rfl, s.below⟩

/-- Whether a reader is ready. -/
theorem ready_nil (w : World) : Calls Try.prog 29 #[.pointer none] w (Gives (.bool false) w) := by
  go_enter Try.func29, Try.ntmps29
  go_wp2
  go_ret
  exact ⟨rfl, Below.refl _ _⟩
theorem ready_any (g n L dcap : Nat) (da : Option Addr) (c p : Int) (w : World) (h : w.heap[g]? = some (rdO n L da dcap c p)) :
    Calls Try.prog 29 #[.pointer (some ⟨g, 0, none⟩)] w (fun e w' => e = .returned (.bool (decide (c = 0))) ∧ w' = w) := by
  have c3 := (rd_cells h).2.2.2.1
  clear h
  by_cases hc : c = 0
  · subst hc
    go_enter Try.func29, Try.ntmps29
    go_wp2
    go_ret
    exact ⟨rfl, rfl⟩
  · have hd : decide (c = 0) = false := decide_eq_false hc
    rw [hd]
    have hb : (c == 0) = false := by simpa using hc
    go_enter Try.func29, Try.ntmps29
    go_wp2
    go_ret
    exact ⟨rfl, rfl⟩

theorem at_nil (w : World) : Calls Try.prog 14 #[.pointer none] w (fun e w' => e = .returned (.int .i64 0) ∧ w' = w) := by
  go_enter Try.func14, Try.ntmps14
  go_wp2
  go_ret
  exact ⟨rfl, rfl⟩
theorem at_any (g n L dcap : Nat) (da : Option Addr) (c p : Int) (w : World) (h : w.heap[g]? = some (rdO n L da dcap c p)) :
    Calls Try.prog 14 #[.pointer (some ⟨g, 0, none⟩)] w (fun e w' => e = .returned (.int .i64 n) ∧ w' = w) := by
  have c0 := (rd_cells h).1
  clear h
  go_enter Try.func14, Try.ntmps14
  go_wp2
  go_ret
  exact ⟨rfl, rfl⟩

theorem rest_nil (w : World) : Calls Try.prog 13 #[.pointer none] w (fun e w' => e = .returned (.int .i64 0) ∧ w' = w) := by
  go_enter Try.func13, Try.ntmps13
  go_wp2
  go_ret
  exact ⟨rfl, rfl⟩
theorem rest_any (g n L dcap : Nat) (da : Option Addr) (c p : Int) (w : World) (h : w.heap[g]? = some (rdO n L da dcap c p)) (hn : n ≤ L) (hL : L ≤ 9223372036854775807) :
    Calls Try.prog 13 #[.pointer (some ⟨g, 0, none⟩)] w (Gives (.int .i64 ((L : Int) - n)) w) := by
  have hl := left_any g n L dcap da c p w h hn hL
  clear h
  go_enter Try.func13, Try.ntmps13
  go_wp2_with (refine (HeldW.call (s := HeldW.start w) hl).mono ?_; rintro e _ ⟨rfl, s1, rfl⟩)
  go_ret
  exact ⟨rfl, s1.below⟩

/-- The fault. -/
theorem fault_nil (w : World) : Calls Try.prog 15 #[.pointer none] w (Gives (.agg #[.int .i64 1, .int .i64 0]) w) := by
  go_enter Try.func15, Try.ntmps15
  go_wp2
  refine bodyPost_ret (v := .agg #[.int .i64 1, .int .i64 0]) (by simp [results, Try.results15, go_sem]) rfl ⟨rfl, ?_⟩
  exact (Below.refl _ w).alloc (Nat.le_refl _) _
theorem fault_any (g n L dcap : Nat) (da : Option Addr) (c p : Int) (w : World) (h : w.heap[g]? = some (rdO n L da dcap c p)) :
    Calls Try.prog 15 #[.pointer (some ⟨g, 0, none⟩)] w (Gives (.agg #[.int .i64 c, .int .i64 p]) w) := by
  have c3 := (rd_cells h).2.2.2.1
  have c4 := (rd_cells h).2.2.2.2
  have hlt : g < w.heap.size := (Array.getElem?_eq_some_iff.1 h).1
  have hne : ¬ w.heap.size = g := by omega
  have d3 : (w.alloc (.cells #[.int .i64 0, .int .i64 0] 41)).cell? ⟨g, 3, none⟩ = some (.int .i64 c) := by rw [cell_of (heap_old h _)]; rfl
  have d4 : (w.alloc (.cells #[.int .i64 0, .int .i64 0] 41)).cell? ⟨g, 4, none⟩ = some (.int .i64 p) := by rw [cell_of (heap_old h _)]; rfl
  clear h
  go_enter Try.func15, Try.ntmps15
  go_wp2
  refine bodyPost_ret (v := .agg #[.int .i64 c, .int .i64 p]) (by simp [results, Try.results15, go_sem]) rfl ⟨rfl, ?_⟩
  exact (Below.refl _ w).alloc (Nat.le_refl _) _

/-- What a store into a reader makes of it. -/
theorem rd_set0 {w : World} {g n L dcap : Nat} {da : Option Addr} {c p : Int} (h : w.heap[g]? = some (rdO n L da dcap c p)) (m : Nat) : (w.setCell ⟨g, 0, none⟩ (.int .i64 m)).heap[g]? = some (rdO m L da dcap c p) := by
  rw [heap_setCell_same _ _ _ _ _ _ h]; rfl
theorem rd_set34 {w : World} {g n L dcap : Nat} {da : Option Addr} {c p : Int} (h : w.heap[g]? = some (rdO n L da dcap c p)) (c' p' : Int) : ((w.setCell ⟨g, 3, none⟩ (.int .i64 c')).setCell ⟨g, 4, none⟩ (.int .i64 p')).heap[g]? = some (rdO n L da dcap c' p') := by
  rw [heap_setCell_same _ _ _ _ _ _ (heap_setCell_same _ _ _ _ _ _ h)]; rfl

/-- It returns v; of what was there only block h has changed: it holds o now. -/
theorem gives_puts {P : Program} {f : FuncId} {args : Array Value} {v : Value} {w : World} {g : Nat} {o : Obj} (ho : w.heap[g]? = some o) (h : Calls P f args w (Gives v w)) : Calls P f args w (Puts g o v w) :=
  h.mono fun _ _ ⟨he, hb⟩ => ⟨he, But.of_below hb, heap_below ho hb⟩

theorem fail_nil (code at_ : Int) (w : World) : Calls Try.prog 17 #[.pointer none, .int .i64 code, .int .i64 at_] w (Gives (.tuple #[]) w) := by
  have hr := ready_nil w
  go_enter Try.func17, Try.ntmps17
  go_wp2_with (refine (HeldW.call (s := HeldW.start w) hr).mono ?_; rintro e _ ⟨rfl, s1, rfl⟩)
  go_end0
  exact ⟨rfl, s1.below⟩
theorem fail_no (g n L dcap : Nat) (da : Option Addr) (c p code at_ : Int) (w : World) (h : w.heap[g]? = some (rdO n L da dcap c p)) (hc : c ≠ 0) :
    Calls Try.prog 17 #[.pointer (some ⟨g, 0, none⟩), .int .i64 code, .int .i64 at_] w (Gives (.tuple #[]) w) := by
  have hr := ready_any g n L dcap da c p w h
  rw [decide_eq_false hc] at hr
  clear h hc
  go_enter Try.func17, Try.ntmps17
  go_wp2_with (refine (HeldW.call (s := HeldW.start w) (gives_same hr)).mono ?_; rintro e _ ⟨rfl, s1, rfl⟩)
  go_end0
  exact ⟨rfl, s1.below⟩
theorem fail_any (g n L dcap : Nat) (da : Option Addr) (p code at_ : Int) (w : World) (h : w.heap[g]? = some (rdO n L da dcap 0 p)) (hc : code ≠ 0) :
    Calls Try.prog 17 #[.pointer (some ⟨g, 0, none⟩), .int .i64 code, .int .i64 at_] w (Puts g (rdO n L da dcap code at_) (.tuple #[]) w) := by
  have hr := ready_any g n L dcap da 0 p w h
  rw [decide_eq_true rfl] at hr
  have hb : (code != 0) = true := by simpa using hc
  obtain ⟨c0, c1, c2, c3, c4⟩ := rd_cells h
  have f3 := free_of h 3
  have f4 := free_of h 4
  have hfin : Hid (Puts g (rdO n L da dcap code at_) (.tuple #[]) w (.returned (.tuple #[])) ((w.setCell ⟨g, 3, none⟩ (.int .i64 code)).setCell ⟨g, 4, none⟩ (.int .i64 at_))) :=
    Lib.hid ⟨rfl, ((But.refl g _ w).store 3 _).store 4 _, rd_set34 h _ _⟩
  clear h hc
  go_enter Try.func17, Try.ntmps17
  go_wp2_with (refine hr.mono ?_; rintro e _ ⟨rfl, rfl⟩)
  go_end0
  exact hfin.out

theorem pass_any (g n L dcap k : Nat) (da : Option Addr) (c p : Int) (w : World) (h : w.heap[g]? = some (rdO n L da dcap c p)) (hn : n + k ≤ L) (hL : L ≤ 9223372036854775807) :
    Calls Try.prog 33 #[.pointer (some ⟨g, 0, none⟩), .int .i64 k] w (fun e w' => e = .returned (.tuple #[]) ∧ w' = w.setCell ⟨g, 0, none⟩ (.int .i64 (n + k : Nat))) := by
  obtain ⟨c0, -⟩ := rd_cells h
  have f0 := free_of h 0
  have hs : ((n + k : Nat) : Int) = (n : Int) + (k : Int) := by omega
  clear h
  rw [hs]
  clear hs
  go_enter Try.func33, Try.ntmps33
  go_wp2
  go_end0
  exact ⟨rfl, rfl⟩

theorem read_nil (k : Int) (u : Value) (w : World) : Calls Try.prog 26 #[.pointer none, .int .i64 k, u] w (Gives (.tuple #[]) w) := by
  have hr := ready_nil w
  go_enter Try.func26, Try.ntmps26
  go_wp2_with (refine (HeldW.call (s := HeldW.start w) hr).mono ?_; rintro e _ ⟨rfl, s1, rfl⟩)
  go_end0
  exact ⟨rfl, s1.below⟩
theorem read_not (g n L dcap : Nat) (da : Option Addr) (c p k : Int) (u : Value) (w : World) (h : w.heap[g]? = some (rdO n L da dcap c p)) (hc : c ≠ 0) :
    Calls Try.prog 26 #[.pointer (some ⟨g, 0, none⟩), .int .i64 k, u] w (Gives (.tuple #[]) w) := by
  have hr := ready_any g n L dcap da c p w h
  rw [decide_eq_false hc] at hr
  clear h hc
  go_enter Try.func26, Try.ntmps26
  go_wp2_with (refine (HeldW.call (s := HeldW.start w) (gives_same hr)).mono ?_; rintro e _ ⟨rfl, s1, rfl⟩)
  go_end0
  exact ⟨rfl, s1.below⟩
theorem read_short (g n L dcap : Nat) (da : Option Addr) (p k : Int) (u : Value) (w : World) (h : w.heap[g]? = some (rdO n L da dcap 0 p)) (hn : n ≤ L) (hL : L ≤ 9223372036854775807) (hk : (L : Int) - n < k) :
    Calls Try.prog 26 #[.pointer (some ⟨g, 0, none⟩), .int .i64 k, u] w (Puts g (rdO n L da dcap 8 L) (.tuple #[]) w) := by
  have hr := ready_any g n L dcap da 0 p w h
  rw [decide_eq_true rfl] at hr
  have hl := fun s : HeldW w [] => left_any g n L dcap da 0 p s.w (heap_below h s.below) hn hL
  have c1 := fun s : HeldW w [] => (rd_cellsW h s).2.1
  have hf := fun s : HeldW w [] => fail_any g n L dcap da p 8 L s.w (heap_below h s.below) (by omega)
  have hd : decide ((L : Int) - n < k) = true := by simpa using hk
  clear h hk
  go_enter Try.func26, Try.ntmps26
  go_wp2_with fail
  refine (HeldW.call (s := HeldW.start w) (gives_same hr)).mono ?_
  rintro e _ ⟨rfl, s1, rfl⟩
  clear hr
  go_wp2_with fail
  refine (HeldW.call (s := s1) (hl s1)).mono ?_
  rintro e _ ⟨rfl, s2, rfl⟩
  clear hl
  go_wp2_with fail
  refine (hf s2).mono ?_
  rintro e w3 ⟨rfl, hb, ho⟩
  clear hf
  go_wp2
  go_end0
  exact ⟨rfl, (But.of_below s2.below).trans (hb.mono s2.below.size), ho⟩

/-- The next k bytes are handed to the function value, which leaves the reader as it is; then they are passed. -/
theorem read_ok (cb V g n L k dcap : Nat) (da A : Option Addr) (p : Int) (w : World) (Q : World → Prop) (eg : ∀ args w, (callFunc cb args).run Try.prog w = .ok (.enter cb args) w) (h : w.heap[g]? = some (rdO n L da dcap 0 p)) (hn : n + k ≤ L) (hL : L ≤ 9223372036854775807)
    (hsl : ∀ W, (Instr.slice 22 (.slice da L dcap) (some (.int .i64 (n : Int))) (some (.int .i64 ((n : Int) + (k : Int)))) none).run Try.prog W = .ok (.slice A k (dcap - n)) W)
    (hcb : ∀ s : HeldW w [], Calls Try.prog cb #[.slice A k (dcap - n), .pointer (some ⟨V, 0, none⟩)] s.w fun e w' => e = .returned (.tuple #[]) ∧ Q w') (hQ : ∀ w', Q w' → w'.heap[g]? = some (rdO n L da dcap 0 p)) :
    Calls Try.prog 26 #[.pointer (some ⟨g, 0, none⟩), .int .i64 k, .func (.func cb) #[] #[.pointer (some ⟨V, 0, none⟩)]] w (fun e w' => e = .returned (.tuple #[]) ∧ ∃ w1, Q w1 ∧ w' = w1.setCell ⟨g, 0, none⟩ (.int .i64 (n + k : Nat))) := by
  have hr := ready_any g n L dcap da 0 p w h
  rw [decide_eq_true rfl] at hr
  have hl := fun s : HeldW w [] => left_any g n L dcap da 0 p s.w (heap_below h s.below) (by omega) hL
  have c0 := fun s : HeldW w [] => (rd_cellsW h s).1
  have c2 := fun s : HeldW w [] => (rd_cellsW h s).2.2.1
  have hp := fun w1 (h : Q w1) => pass_any g n L dcap k da 0 p w1 (hQ w1 h) hn hL
  have hd : decide ((L : Int) - n < k) = false := by simp; omega
  have HP := Lib.hid hp
  have HCB := Lib.hid hcb
  clear h hQ hp hcb
  go_enter Try.func26, Try.ntmps26
  go_wp2_with fail
  refine (HeldW.call (s := HeldW.start w) (gives_same hr)).mono ?_
  rintro e _ ⟨rfl, s1, rfl⟩
  clear hr
  go_wp2_with fail
  refine (HeldW.call (s := s1) (hl s1)).mono ?_
  rintro e _ ⟨rfl, s2, rfl⟩
  clear hl
  go_wp2_with fail
  refine wp_region_class_tail 18 _ _ (by kernel_rfl) (by kernel_rfl) s2.below s2.blocks (fun hne => ?_)
  simp only [List.take_succ_cons, List.take_zero, List.drop_succ_cons, List.drop_zero]
  clear s1 s2
  repeat (go_big_quiet_step (fail))
  refine wpQuiet_nil ?_
  rintro _ ⟨s3, rfl⟩
  clear hne c0 c2 hsl
  go_wp2_with (go_at_fn cb; refine (HCB.out s3).mono ?_; rintro e w3 ⟨rfl, hq3⟩)
  refine (HP.out w3 hq3).mono ?_
  rintro e _ ⟨rfl, rfl⟩
  go_wp2
  go_end0
  exact ⟨rfl, w3, hq3, rfl⟩
end Go.Proofs.Ytclalbiggnalfaa
