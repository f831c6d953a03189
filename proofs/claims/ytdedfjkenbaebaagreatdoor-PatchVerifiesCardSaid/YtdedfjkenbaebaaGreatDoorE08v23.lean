import Derived.LoopTactic
import Derived.BigQuiet
import Derived.Deep.QuietTactic
import Derived.Great.BuildSlice
import Derived.Shelf.Abstract
import Derived.Test.YtdedfjkenbaebaaGreatDoorE08v7
import Derived.Test.YtdedfjkenbaebaaGreatDoorE08v1
import Derived.Test.YtdedfjkenbaebaaGreatDoorE08v17
/- Readers of package wire: their blocks; left, ready, At, Rest, Fault, Fail, pass. -/
namespace Go.Proofs.YtdedfjkenbaebaaGreatDoor
open Go.RowKit
set_option linter.unusedVariables false
set_option linter.unusedSimpArgs false

/-- The block of a reader: the offset n, the length L, the bytes, the code and the place of the fault. -/
abbrev rdO (n L : Nat) (da : Option Addr) (dcap : Nat) (c p : Int) : Obj := .cells #[.int .i64 n, .int .i64 L, .slice da L dcap, .int .i64 c, .int .i64 p] 107 (0, 0)

/-- Its five cells. -/
theorem rd_cells {w : World} {g n L dcap : Nat} {da : Option Addr} {c p : Int} (h : w.heap[g]? = some (rdO n L da dcap c p)) :
    w.cell? ⟨g, 0, none⟩ = some (.int .i64 n) ∧ w.cell? ⟨g, 1, none⟩ = some (.int .i64 L) ∧ w.cell? ⟨g, 2, none⟩ = some (.slice da L dcap) ∧ w.cell? ⟨g, 3, none⟩ = some (.int .i64 c) ∧ w.cell? ⟨g, 4, none⟩ = some (.int .i64 p) :=
  ⟨by rw [cell_of h]; rfl, by rw [cell_of h]; rfl, by rw [cell_of h]; rfl, by rw [cell_of h]; rfl, by rw [cell_of h]; rfl⟩
theorem rd_cellsW {w0 : World} {g n L dcap : Nat} {da : Option Addr} {c p : Int} (h : w0.heap[g]? = some (rdO n L da dcap c p)) (s : HeldW w0 []) :
    s.w.cell? ⟨g, 0, none⟩ = some (.int .i64 n) ∧ s.w.cell? ⟨g, 1, none⟩ = some (.int .i64 L) ∧ s.w.cell? ⟨g, 2, none⟩ = some (.slice da L dcap) ∧ s.w.cell? ⟨g, 3, none⟩ = some (.int .i64 c) ∧ s.w.cell? ⟨g, 4, none⟩ = some (.int .i64 p) :=
  rd_cells (heap_below h s.below)

theorem left_any (g n L dcap : Nat) (da : Option Addr) (c p : Int) (w : World) (h : w.heap[g]? = some (rdO n L da dcap c p)) (hn : n ≤ L) (hL : L ≤ 9223372036854775807) :
    Calls Tryz.prog 88 #[.pointer (some ⟨g, 0, none⟩)] w (Gives (.int .i64 ((L : Int) - n)) w) := by
  have c0 := fun s : HeldW w [] => (rd_cellsW h s).1
  have c1 := fun s : HeldW w [] => (rd_cellsW h s).2.1
  obtain ⟨H⟩ : Nonempty (HeldW w []) := ⟨HeldW.start w⟩
  clear h
  go_enter Tryz.func88, Tryz.ntmps88
  go_wp2
  refine wp_region_class w [] (by kernel_rfl) (by kernel_rfl) (Below.refl _ _) (by simp) (fun hne => ?_)
  clear H
  repeat (go_big_quiet_step (fail))
  refine wpQuiet_nil ?_
  rintro _ ⟨s, rfl⟩
  clear hne c0 c1
  go_wp2
  go_ret
  exact ⟨rfl, s.below⟩

/-- Whether a reader is ready. -/
theorem ready_nil (w : World) : Calls Tryz.prog 89 #[.pointer none] w (Gives (.bool false) w) := by
  go_enter Tryz.func89, Tryz.ntmps89
  go_wp2
  go_ret
  exact ⟨rfl, Below.refl _ _⟩
theorem ready_any (g n L dcap : Nat) (da : Option Addr) (c p : Int) (w : World) (h : w.heap[g]? = some (rdO n L da dcap c p)) :
    Calls Tryz.prog 89 #[.pointer (some ⟨g, 0, none⟩)] w (fun e w' => e = .returned (.bool (decide (c = 0))) ∧ w' = w) := by
  have c3 := (rd_cells h).2.2.2.1
  clear h
  by_cases hc : c = 0
  · subst hc
    go_enter Tryz.func89, Tryz.ntmps89
    go_wp2
    go_ret
    exact ⟨rfl, rfl⟩
  · have hd : decide (c = 0) = false := decide_eq_false hc
    rw [hd]
    have hb : (c == 0) = false := by simpa using hc
    go_enter Tryz.func89, Tryz.ntmps89
    go_wp2
    go_ret
    exact ⟨rfl, rfl⟩

theorem at_nil (w : World) : Calls Tryz.prog 42 #[.pointer none] w (fun e w' => e = .returned (.int .i64 0) ∧ w' = w) := by
  go_enter Tryz.func42, Tryz.ntmps42
  go_wp2
  go_ret
  exact ⟨rfl, rfl⟩
theorem at_any (g n L dcap : Nat) (da : Option Addr) (c p : Int) (w : World) (h : w.heap[g]? = some (rdO n L da dcap c p)) :
    Calls Tryz.prog 42 #[.pointer (some ⟨g, 0, none⟩)] w (fun e w' => e = .returned (.int .i64 n) ∧ w' = w) := by
  have c0 := (rd_cells h).1
  clear h
  go_enter Tryz.func42, Tryz.ntmps42
  go_wp2
  go_ret
  exact ⟨rfl, rfl⟩

theorem rest_nil (w : World) : Calls Tryz.prog 40 #[.pointer none] w (fun e w' => e = .returned (.int .i64 0) ∧ w' = w) := by
  go_enter Tryz.func40, Tryz.ntmps40
  go_wp2
  go_ret
  exact ⟨rfl, rfl⟩
theorem rest_any (g n L dcap : Nat) (da : Option Addr) (c p : Int) (w : World) (h : w.heap[g]? = some (rdO n L da dcap c p)) (hn : n ≤ L) (hL : L ≤ 9223372036854775807) :
    Calls Tryz.prog 40 #[.pointer (some ⟨g, 0, none⟩)] w (Gives (.int .i64 ((L : Int) - n)) w) := by
  have hl := left_any g n L dcap da c p w h hn hL
  clear h
  go_enter Tryz.func40, Tryz.ntmps40
  go_wp2_with (refine (HeldW.call (s := HeldW.start w) hl).mono ?_; rintro e _ ⟨rfl, s1, rfl⟩)
  go_ret
  exact ⟨rfl, s1.below⟩

/-- The fault. -/
theorem fault_nil (w : World) : Calls Tryz.prog 43 #[.pointer none] w (Gives (.agg #[.int .i64 1, .int .i64 0]) w) := by
  go_enter Tryz.func43, Tryz.ntmps43
  go_wp2
  refine bodyPost_ret (v := .agg #[.int .i64 1, .int .i64 0]) (by simp [results, Tryz.results43, go_sem]) rfl ⟨rfl, ?_⟩
  exact (Below.refl _ w).alloc (Nat.le_refl _) _
theorem fault_any (g n L dcap : Nat) (da : Option Addr) (c p : Int) (w : World) (h : w.heap[g]? = some (rdO n L da dcap c p)) :
    Calls Tryz.prog 43 #[.pointer (some ⟨g, 0, none⟩)] w (Gives (.agg #[.int .i64 c, .int .i64 p]) w) := by
  have c3 := (rd_cells h).2.2.2.1
  have c4 := (rd_cells h).2.2.2.2
  have hlt : g < w.heap.size := (Array.getElem?_eq_some_iff.1 h).1
  have hne : ¬ w.heap.size = g := by omega
  have d3 : (w.alloc (.cells #[.int .i64 0, .int .i64 0] 30)).cell? ⟨g, 3, none⟩ = some (.int .i64 c) := by rw [cell_of (heap_old h _)]; rfl
  have d4 : (w.alloc (.cells #[.int .i64 0, .int .i64 0] 30)).cell? ⟨g, 4, none⟩ = some (.int .i64 p) := by rw [cell_of (heap_old h _)]; rfl
  clear h
  go_enter Tryz.func43, Tryz.ntmps43
  go_wp2
  refine bodyPost_ret (v := .agg #[.int .i64 c, .int .i64 p]) (by simp [results, Tryz.results43, go_sem]) rfl ⟨rfl, ?_⟩
  exact (Below.refl _ w).alloc (Nat.le_refl _) _

/-- What a store into a reader makes of it. -/
theorem rd_set0 {w : World} {g n L dcap : Nat} {da : Option Addr} {c p : Int} (h : w.heap[g]? = some (rdO n L da dcap c p)) (m : Nat) : (w.setCell ⟨g, 0, none⟩ (.int .i64 m)).heap[g]? = some (rdO m L da dcap c p) := by
  rw [heap_setCell_same _ _ _ _ _ _ h]; rfl
theorem rd_set34 {w : World} {g n L dcap : Nat} {da : Option Addr} {c p : Int} (h : w.heap[g]? = some (rdO n L da dcap c p)) (c' p' : Int) : ((w.setCell ⟨g, 3, none⟩ (.int .i64 c')).setCell ⟨g, 4, none⟩ (.int .i64 p')).heap[g]? = some (rdO n L da dcap c' p') := by
  rw [heap_setCell_same _ _ _ _ _ _ (heap_setCell_same _ _ _ _ _ _ h)]; rfl

/-- It returns v; of what was there only block h has changed: it holds o now. -/
theorem gives_puts {P : Program} {f : FuncId} {args : Array Value} {v : Value} {w : World} {g : Nat} {o : Obj} (ho : w.heap[g]? = some o) (h : Calls P f args w (Gives v w)) : Calls P f args w (Puts g o v w) :=
  h.mono fun _ _ ⟨he, hb⟩ => ⟨he, But.of_below hb, heap_below ho hb⟩

theorem fail_nil (code at_ : Int) (w : World) : Calls Tryz.prog 41 #[.pointer none, .int .i64 code, .int .i64 at_] w (Gives (.tuple #[]) w) := by
  have hr := ready_nil w
  go_enter Tryz.func41, Tryz.ntmps41
  go_wp2_with (refine (HeldW.call (s := HeldW.start w) hr).mono ?_; rintro e _ ⟨rfl, s1, rfl⟩)
  go_end0
  exact ⟨rfl, s1.below⟩
theorem fail_no (g n L dcap : Nat) (da : Option Addr) (c p code at_ : Int) (w : World) (h : w.heap[g]? = some (rdO n L da dcap c p)) (hc : c ≠ 0) :
    Calls Tryz.prog 41 #[.pointer (some ⟨g, 0, none⟩), .int .i64 code, .int .i64 at_] w (Gives (.tuple #[]) w) := by
  have hr := ready_any g n L dcap da c p w h
  rw [decide_eq_false hc] at hr
  clear h hc
  go_enter Tryz.func41, Tryz.ntmps41
  go_wp2_with (refine (HeldW.call (s := HeldW.start w) (gives_same hr)).mono ?_; rintro e _ ⟨rfl, s1, rfl⟩)
  go_end0
  exact ⟨rfl, s1.below⟩
theorem fail_any (g n L dcap : Nat) (da : Option Addr) (p code at_ : Int) (w : World) (h : w.heap[g]? = some (rdO n L da dcap 0 p)) (hc : code ≠ 0) :
    Calls Tryz.prog 41 #[.pointer (some ⟨g, 0, none⟩), .int .i64 code, .int .i64 at_] w (Puts g (rdO n L da dcap code at_) (.tuple #[]) w) := by
  have hr := ready_any g n L dcap da 0 p w h
  rw [decide_eq_true rfl] at hr
  have hb : (code != 0) = true := by simpa using hc
  obtain ⟨c0, c1, c2, c3, c4⟩ := rd_cells h
  have f3 := free_of h 3
  have f4 := free_of h 4
  have hfin : Hid (Puts g (rdO n L da dcap code at_) (.tuple #[]) w (.returned (.tuple #[])) ((w.setCell ⟨g, 3, none⟩ (.int .i64 code)).setCell ⟨g, 4, none⟩ (.int .i64 at_))) :=
    Lib.hid ⟨rfl, ((But.refl g _ w).store 3 _).store 4 _, rd_set34 h _ _⟩
  clear h hc
  go_enter Tryz.func41, Tryz.ntmps41
  go_wp2_with (refine hr.mono ?_; rintro e _ ⟨rfl, rfl⟩)
  go_end0
  exact hfin.out

theorem pass_any (g n L dcap k : Nat) (da : Option Addr) (c p : Int) (w : World) (h : w.heap[g]? = some (rdO n L da dcap c p)) (hn : n + k ≤ L) (hL : L ≤ 9223372036854775807) :
    Calls Tryz.prog 107 #[.pointer (some ⟨g, 0, none⟩), .int .i64 k] w (fun e w' => e = .returned (.tuple #[]) ∧ w' = w.setCell ⟨g, 0, none⟩ (.int .i64 (n + k : Nat))) := by
  obtain ⟨c0, -⟩ := rd_cells h
  have f0 := free_of h 0
  have hs : ((n + k : Nat) : Int) = (n : Int) + (k : Int) := by omega
  clear h
  rw [hs]
  clear hs
  go_enter Tryz.func107, Tryz.ntmps107
  go_wp2
  go_end0
  exact ⟨rfl, rfl⟩

theorem read_nil (k : Int) (u : Value) (w : World) : Calls Tryz.prog 64 #[.pointer none, .int .i64 k, u] w (Gives (.tuple #[]) w) := by
  have hr := ready_nil w
  go_enter Tryz.func64, Tryz.ntmps64
  go_wp2_with (refine (HeldW.call (s := HeldW.start w) hr).mono ?_; rintro e _ ⟨rfl, s1, rfl⟩)
  go_end0
  exact ⟨rfl, s1.below⟩
theorem read_not (g n L dcap : Nat) (da : Option Addr) (c p k : Int) (u : Value) (w : World) (h : w.heap[g]? = some (rdO n L da dcap c p)) (hc : c ≠ 0) :
    Calls Tryz.prog 64 #[.pointer (some ⟨g, 0, none⟩), .int .i64 k, u] w (Gives (.tuple #[]) w) := by
  have hr := ready_any g n L dcap da c p w h
  rw [decide_eq_false hc] at hr
  clear h hc
  go_enter Tryz.func64, Tryz.ntmps64
  go_wp2_with (refine (HeldW.call (s := HeldW.start w) (gives_same hr)).mono ?_; rintro e _ ⟨rfl, s1, rfl⟩)
  go_end0
  exact ⟨rfl, s1.below⟩
theorem read_short (g n L dcap : Nat) (da : Option Addr) (p k : Int) (u : Value) (w : World) (h : w.heap[g]? = some (rdO n L da dcap 0 p)) (hn : n ≤ L) (hL : L ≤ 9223372036854775807) (hk : (L : Int) - n < k) :
    Calls Tryz.prog 64 #[.pointer (some ⟨g, 0, none⟩), .int .i64 k, u] w (Puts g (rdO n L da dcap 8 L) (.tuple #[]) w) := by
  have hr := ready_any g n L dcap da 0 p w h
  rw [decide_eq_true rfl] at hr
  have hl := fun s : HeldW w [] => left_any g n L dcap da 0 p s.w (heap_below h s.below) hn hL
  have c1 := fun s : HeldW w [] => (rd_cellsW h s).2.1
  have hf := fun s : HeldW w [] => fail_any g n L dcap da p 8 L s.w (heap_below h s.below) (by omega)
  have hd : decide ((L : Int) - n < k) = true := by simpa using hk
  clear h hk
  go_enter Tryz.func64, Tryz.ntmps64
  go_wp2_with fail
  refine (HeldW.call (s := HeldW.start w) (gives_same hr)).mono ?_
  rintro e _ ⟨rfl, s1, rfl⟩
  clear hr
  go_wp2_with fail
  refine (HeldW.call (s := s1) (hl s1)).mono ?_
  rintro e _ ⟨rfl, s2, rfl⟩
  clear hl
  go_wp2_with fail
  refine (hf s2).mono ?_
  rintro e w3 ⟨rfl, hb, ho⟩
  clear hf
  go_wp2
  go_end0
  exact ⟨rfl, (But.of_below s2.below).trans (hb.mono s2.below.size), ho⟩

/-- The next k bytes are handed to the function value, which leaves the reader as it is; then they are passed. -/
theorem read_ok (cb V g n L k dcap : Nat) (da A : Option Addr) (p : Int) (w : World) (Q : World → Prop) (eg : ∀ args w, (callFunc cb args).run Tryz.prog w = .ok (.enter cb args) w) (h : w.heap[g]? = some (rdO n L da dcap 0 p)) (hn : n + k ≤ L) (hL : L ≤ 9223372036854775807)
    (hsl : ∀ W, (Instr.slice 22 (.slice da L dcap) (some (.int .i64 (n : Int))) (some (.int .i64 ((n : Int) + (k : Int)))) none).run Tryz.prog W = .ok (.slice A k (dcap - n)) W)
    (hcb : ∀ s : HeldW w [], Calls Tryz.prog cb #[.slice A k (dcap - n), .pointer (some ⟨V, 0, none⟩)] s.w fun e w' => e = .returned (.tuple #[]) ∧ Q w') (hQ : ∀ w', Q w' → w'.heap[g]? = some (rdO n L da dcap 0 p)) :
    Calls Tryz.prog 64 #[.pointer (some ⟨g, 0, none⟩), .int .i64 k, .func (.func cb) #[] #[.pointer (some ⟨V, 0, none⟩)]] w (fun e w' => e = .returned (.tuple #[]) ∧ ∃ w1, Q w1 ∧ w' = w1.setCell ⟨g, 0, none⟩ (.int .i64 (n + k : Nat))) := by
  have hr := ready_any g n L dcap da 0 p w h
  rw [decide_eq_true rfl] at hr
  have hl := fun s : HeldW w [] => left_any g n L dcap da 0 p s.w (heap_below h s.below) (by omega) hL
  have c0 := fun s : HeldW w [] => (rd_cellsW h s).1
  have c2 := fun s : HeldW w [] => (rd_cellsW h s).2.2.1
  have hp := fun w1 (h : Q w1) => pass_any g n L dcap k da 0 p w1 (hQ w1 h) hn hL
  have hd : decide ((L : Int) - n < k) = false := by simp; omega
  have HP := Lib.hid hp
  have HCB := Lib.hid hcb
  clear h hQ hp hcb
  go_enter Tryz.func64, Tryz.ntmps64
  go_wp2_with fail
  refine (HeldW.call (s := HeldW.start w) (gives_same hr)).mono ?_
  rintro e _ ⟨rfl, s1, rfl⟩
  clear hr
  go_wp2_with fail
  refine (HeldW.call (s := s1) (hl s1)).mono ?_
  rintro e _ ⟨rfl, s2, rfl⟩
  clear hl
  go_wp2_with fail
  refine wp_region_class_tail 18 _ _ (by kernel_rfl) (by kernel_rfl) s2.below s2.blocks (fun hne => ?_)
  simp only [List.take_succ_cons, List.take_zero, List.drop_succ_cons, List.drop_zero]
  clear s1 s2
  repeat (go_big_quiet_step (fail))
  refine wpQuiet_nil ?_
  rintro _ ⟨s3, rfl⟩
  clear hne c0 c2 hsl
  go_wp2_with (go_at_fn cb; refine (HCB.out s3).mono ?_; rintro e w3 ⟨rfl, hq3⟩)
  refine (HP.out w3 hq3).mono ?_
  rintro e _ ⟨rfl, rfl⟩
  go_wp2
  go_end0
  exact ⟨rfl, w3, hq3, rfl⟩
end Go.Proofs.YtdedfjkenbaebaaGreatDoor

/- Uint of package wire. -/
namespace Go.Proofs.YtdedfjkenbaebaaGreatDoor
open Go.RowKit
set_option linter.unusedVariables false
set_option linter.unusedSimpArgs false

/-- One more digit. -/
def stepU (x d : Int) : Int := bits .or .u64 (IntKind.u64.wrap (x * 256)) (IntKind.u64.wrap d)
def beval (l : List Int) : Int := l.foldl stepU 0
theorem beval_snoc (l : List Int) {k : Nat} (hk : k < l.length) : beval (l.take (k + 1)) = stepU (beval (l.take k)) (l[k]?.getD 0) := by
  rw [List.take_succ_eq_append_getElem hk, List.getElem?_eq_getElem hk]
  simp only [beval, List.foldl_append, List.foldl_cons, List.foldl_nil, Option.getD_some]
abbrev u64O (x : Int) : Obj := .cells #[.int .u64 x] 37 (0, 0)

/-- A cell outside of the block that may be written. -/
theorem src_cellX {w : World} {h : Nat} {b o : Nat} {v : Value} (hb : b ≠ h) (hc : w.cell? ⟨b, o, none⟩ = some v) {bs : List (Nat × Obj)} (s : HeldX w h bs) : s.w.cell? ⟨b, o, none⟩ = some v := by
  rw [← hc]; unfold World.cell?; rw [s.but.block b (World.block_lt_of_cell? w _ hc) hb]

set_option maxRecDepth 100000 in
theorem uintC_any (V cap : Nat) (A : Option Addr) (l : List Int) (w : World) (hV : w.heap[V]? = some (u64O 0)) (hs : Src w V A l) (hl : l.length ≤ 8) :
    Calls Tryz.prog 65 #[.slice A l.length cap, .pointer (some ⟨V, 0, none⟩)] w (Puts V (u64O (beval l)) (.tuple #[]) w) := by
  have HS := Lib.hid hs
  have HV := Lib.hid (show w.heap[V]? = some (u64O (beval (l.take 0))) from hV)
  clear hs hV
  go_enter Tryz.func65, Tryz.ntmps65
  go_wp2
  go_loopw [4, 7] (fun _ i wr => ∃ k : Nat, k ≤ l.length ∧ i = .int .i64 k ∧ ∃ s : HeldX w V [(V, u64O (beval (l.take k)))], wr = s.w) (fun _ i _ => l.length - (intOf i).toNat)
  case atStart => exact ⟨0, by omega, rfl, HeldX.start HV.out, rfl⟩
  case round =>
    obtain ⟨k, hk, rfl, s, rfl⟩ := hrel
    by_cases hlt : k < l.length
    · obtain ⟨b, o, rfl, hb, hc⟩ := HS.out (by omega)
      have c1 := src_cellX hb (hc k hlt) s
      have hblk := s.blocks (_, _) List.mem_cons_self
      have cV : s.w.cell? ⟨V, 0, none⟩ = some (.int .u64 (beval (l.take k))) := by rw [cell_of hblk]; rfl
      have fV := free_of hblk 0
      have hsn := beval_snoc l hlt
      clear hc hblk
      generalize l[k]?.getD 0 = d at c1 hsn
      generalize beval (l.take k) = x at *
      have HSN := Lib.hid hsn
      clear hsn
      go_wp2
      go_roundw
      case rel => exact ⟨k + 1, by omega, by go_num, s.store (cs' := #[.int .u64 (beval (l.take (k + 1)))]) (.inl rfl) (by simp) (by rw [HSN.out]; rfl), rfl⟩
      case measure => simp [intOf]; omega
    · obtain rfl : k = l.length := by omega
      have hblk : s.w.heap[V]? = some (u64O (beval l)) := (s.blocks (_, _) List.mem_cons_self).trans (by simp only [List.take_length])
      have HB := Lib.hid hblk
      clear hblk
      go_wp2
      go_end0
      exact ⟨rfl, s.but, HB.out⟩

/-- The bytes from lo to hi. -/
theorem cut_mid {w : World} {a : Option Addr} {l : List Int} {cap : Nat} (h : BytesIn w a l cap) (lo hi : Nat) (h1 : lo ≤ hi) (h2 : hi ≤ l.length) :
    ∃ A, (∀ W, (Instr.slice 22 (.slice a l.length cap) (some (.int .i64 (lo : Int))) (some (.int .i64 (hi : Int))) none).run Tryz.prog W = .ok (.slice A (hi - lo) (cap - lo)) W) ∧ BytesIn w A ((l.drop lo).take (hi - lo)) (cap - lo) := by
  have hlen : ((l.drop lo).take (hi - lo)).length = hi - lo := by rw [List.length_take, List.length_drop]; omega
  refine ⟨if cap = lo then a else a.map (·.add (lo * 1)), fun W => ?_, by rw [hlen]; have := h.len; omega, by have := h.capb; omega, fun hp => ?_, fun h0 => ?_⟩
  · rw [run_slice_lh (P := Tryz.prog) W 22 a l.length cap (by kernel_rfl) .i64 .i64 (lo : Int) (hi : Int) (by omega) (by omega) (by have := h.len; omega), size_u8]
    simp only [Result.andThen_ok, sliced, Int.toNat_natCast]
  · rw [hlen] at hp
    obtain ⟨b, o, rfl, hc⟩ := h.cells (by omega)
    have := h.len
    rw [if_neg (by omega)]
    refine ⟨b, o + lo, by simp [Addr.add_mid], fun i hi => ?_⟩
    rw [hlen] at hi
    rw [Nat.add_assoc, hc (lo + i) (by omega), List.getElem?_take, if_pos (by omega), List.getElem?_drop]
  · by_cases hc : cap = lo
    · omega
    · rw [if_neg hc] at h0
      cases a with
      | none => have := h.nil rfl; omega
      | some ad => cases h0
/-- Bytes outside of a block stay there. -/
theorem src_below {w w' : World} {h : Nat} {a : Option Addr} {l : List Int} (hs : Src w h a l) (hb : Below w.heap.size w w') : Src w' h a l := fun hp => by
  obtain ⟨b, o, rfl, hne, hc⟩ := hs hp
  exact ⟨b, o, rfl, hne, fun i hi => (hb.cell (p := ⟨b, o + i, none⟩) (World.block_lt_of_cell? _ _ (hc i hi))).trans (hc i hi)⟩

/-- A size of a number. -/
theorem isSize_any (n : Int) (w : World) : Calls Tryz.prog 63 #[.int .i64 n] w (fun e w' => e = .returned (.bool (decide (1 ≤ n ∧ n ≤ 8))) ∧ w' = w) := by
  by_cases h1 : 1 ≤ n
  · by_cases h2 : n ≤ 8
    · have hd : decide (1 ≤ n ∧ n ≤ 8) = true := decide_eq_true ⟨h1, h2⟩
      rw [hd]
      go_enter Tryz.func63, Tryz.ntmps63
      go_wp2
      go_ret
      exact ⟨rfl, rfl⟩
    · have hd : decide (1 ≤ n ∧ n ≤ 8) = false := decide_eq_false (fun h => h2 h.2)
      rw [hd]
      go_enter Tryz.func63, Tryz.ntmps63
      go_wp2
      go_ret
      exact ⟨rfl, rfl⟩
  · have hd : decide (1 ≤ n ∧ n ≤ 8) = false := decide_eq_false (fun h => h1 h.1)
    rw [hd]
    go_enter Tryz.func63, Tryz.ntmps63
    go_wp2
    go_ret
    exact ⟨rfl, rfl⟩

theorem uint_nil (k : Int) (w : World) : Calls Tryz.prog 26 #[.pointer none, .int .i64 k] w (Gives (.int .u64 0) w) := by
  by_cases hk : 1 ≤ k ∧ k ≤ 8
  · have hi := isSize_any k w
    rw [decide_eq_true hk] at hi
    have hr := read_nil
    clear hk
    go_enter Tryz.func26, Tryz.ntmps26
    go_wp2_with fail
    refine (HeldW.call (s := HeldW.start w) (gives_same hi)).mono ?_
    rintro e _ ⟨rfl, s1, rfl⟩
    clear hi
    go_wp2_with fail
    refine (HeldW.call (s := s1.push (u64O 0)) (hr _ _ _)).mono ?_
    rintro e _ ⟨rfl, s2, rfl⟩
    have cV : s2.w.cell? ⟨s1.w.heap.size, 0, none⟩ = some (.int .u64 0) := by rw [cell_of (s2.blocks (_, _) List.mem_cons_self)]; rfl
    clear hr
    go_wp2
    go_ret
    exact ⟨rfl, s2.below⟩
  · have hi := isSize_any k w
    rw [decide_eq_false hk] at hi
    have ha := at_nil
    have hf := fail_nil
    clear hk
    go_enter Tryz.func26, Tryz.ntmps26
    go_wp2_with fail
    refine (HeldW.call (s := HeldW.start w) (gives_same hi)).mono ?_
    rintro e _ ⟨rfl, s1, rfl⟩
    go_wp2_with fail
    refine (HeldW.call (s := s1) (gives_same (ha _))).mono ?_
    rintro e _ ⟨rfl, s2, rfl⟩
    go_wp2_with fail
    refine (HeldW.call (s := s2) (hf _ _ _)).mono ?_
    rintro e _ ⟨rfl, s3, rfl⟩
    go_wp2
    go_ret
    exact ⟨rfl, s3.below⟩

section
variable (g n L dcap : Nat) (da : Option Addr) (w : World)
theorem uint_not (c p k : Int) (h : w.heap[g]? = some (rdO n L da dcap c p)) (hc : c ≠ 0) : Calls Tryz.prog 26 #[.pointer (some ⟨g, 0, none⟩), .int .i64 k] w (Gives (.int .u64 0) w) := by
  have hr := fun (W : World) (H : W.heap[g]? = some (rdO n L da dcap c p)) u => read_not g n L dcap da c p k u W H hc
  have ha := fun (W : World) (H : W.heap[g]? = some (rdO n L da dcap c p)) => at_any g n L dcap da c p W H
  have hf := fun (W : World) (H : W.heap[g]? = some (rdO n L da dcap c p)) => fail_no g n L dcap da c p 2 n W H hc
  have HH := Lib.hid h
  clear h
  by_cases hk : 1 ≤ k ∧ k ≤ 8
  · have hi := isSize_any k w
    rw [decide_eq_true hk] at hi
    clear hk
    go_enter Tryz.func26, Tryz.ntmps26
    go_wp2_with fail
    refine (HeldW.call (s := HeldW.start w) (gives_same hi)).mono ?_
    rintro e _ ⟨rfl, s1, rfl⟩
    clear hi
    go_wp2_with fail
    refine (HeldW.call (s := s1.push (u64O 0)) (hr _ (heap_below HH.out (s1.push (u64O 0)).below) _)).mono ?_
    rintro e _ ⟨rfl, s2, rfl⟩
    have cV : s2.w.cell? ⟨s1.w.heap.size, 0, none⟩ = some (.int .u64 0) := by rw [cell_of (s2.blocks (_, _) List.mem_cons_self)]; rfl
    clear hr
    go_wp2
    go_ret
    exact ⟨rfl, s2.below⟩
  · have hi := isSize_any k w
    rw [decide_eq_false hk] at hi
    clear hk
    go_enter Tryz.func26, Tryz.ntmps26
    go_wp2_with fail
    refine (HeldW.call (s := HeldW.start w) (gives_same hi)).mono ?_
    rintro e _ ⟨rfl, s1, rfl⟩
    go_wp2_with fail
    refine (HeldW.call (s := s1) (gives_same (ha _ (heap_below HH.out s1.below)))).mono ?_
    rintro e _ ⟨rfl, s2, rfl⟩
    go_wp2_with fail
    refine (HeldW.call (s := s2) (hf _ (heap_below HH.out s2.below))).mono ?_
    rintro e _ ⟨rfl, s3, rfl⟩
    go_wp2
    go_ret
    exact ⟨rfl, s3.below⟩

theorem uint_range (p k : Int) (h : w.heap[g]? = some (rdO n L da dcap 0 p)) (hk : ¬ (1 ≤ k ∧ k ≤ 8)) : Calls Tryz.prog 26 #[.pointer (some ⟨g, 0, none⟩), .int .i64 k] w (Puts g (rdO n L da dcap 2 n) (.int .u64 0) w) := by
  have hi := isSize_any k w
  rw [decide_eq_false hk] at hi
  have ha := fun (W : World) (H : W.heap[g]? = some (rdO n L da dcap 0 p)) => at_any g n L dcap da 0 p W H
  have hf := fun (W : World) (H : W.heap[g]? = some (rdO n L da dcap 0 p)) => fail_any g n L dcap da p 2 n W H (by omega)
  have HH := Lib.hid h
  clear h hk
  go_enter Tryz.func26, Tryz.ntmps26
  go_wp2_with fail
  refine (HeldW.call (s := HeldW.start w) (gives_same hi)).mono ?_
  rintro e _ ⟨rfl, s1, rfl⟩
  go_wp2_with fail
  refine (HeldW.call (s := s1) (gives_same (ha _ (heap_below HH.out s1.below)))).mono ?_
  rintro e _ ⟨rfl, s2, rfl⟩
  go_wp2_with fail
  refine (hf _ (heap_below HH.out s2.below)).mono ?_
  rintro e w3 ⟨rfl, hb, ho⟩
  go_wp2
  go_ret
  exact ⟨rfl, (But.of_below s2.below).trans (hb.mono s2.below.size), ho⟩

theorem uint_short (p k : Int) (h : w.heap[g]? = some (rdO n L da dcap 0 p)) (hk : 1 ≤ k ∧ k ≤ 8) (hn : n ≤ L) (hL : L ≤ 9223372036854775807) (hs : (L : Int) - n < k) : Calls Tryz.prog 26 #[.pointer (some ⟨g, 0, none⟩), .int .i64 k] w (Puts g (rdO n L da dcap 8 L) (.int .u64 0) w) := by
  have hi := isSize_any k w
  rw [decide_eq_true hk] at hi
  have hr := fun (W : World) (H : W.heap[g]? = some (rdO n L da dcap 0 p)) u => read_short g n L dcap da p k u W H hn hL hs
  have HH := Lib.hid h
  clear h hk hn hL hs
  go_enter Tryz.func26, Tryz.ntmps26
  go_wp2_with fail
  refine (HeldW.call (s := HeldW.start w) (gives_same hi)).mono ?_
  rintro e _ ⟨rfl, s1, rfl⟩
  clear hi
  go_wp2_with fail
  refine (hr _ (heap_below HH.out (s1.push (u64O 0)).below) _).mono ?_
  rintro e w3 ⟨rfl, hb, ho⟩
  have hlt := (Array.getElem?_eq_some_iff.1 (heap_below HH.out s1.below)).1
  have cV : w3.cell? ⟨s1.w.heap.size, 0, none⟩ = some (.int .u64 0) := by
    rw [cell_of ((hb.block s1.w.heap.size (by simp) (by omega)).trans (World.alloc_heap_new s1.w _))]; rfl
  clear hr hlt
  go_wp2
  go_ret
  exact ⟨rfl, (But.of_below (s1.push (u64O 0)).below).trans (hb.mono (s1.push (u64O 0)).below.size), ho⟩

theorem uint_ok (D : List Int) (p : Int) (k : Nat) (h : w.heap[g]? = some (rdO n D.length da dcap 0 p)) (hk : 1 ≤ k ∧ k ≤ 8) (hn : n + k ≤ D.length) (hD : BytesIn w da D dcap) :
    Calls Tryz.prog 26 #[.pointer (some ⟨g, 0, none⟩), .int .i64 k] w (Puts g (rdO (n + k) D.length da dcap 0 p) (.int .u64 (beval ((D.drop n).take k))) w) := by
  have hi := isSize_any k w
  rw [decide_eq_true (by omega : (1 : Int) ≤ k ∧ (k : Int) ≤ 8)] at hi
  have hL : D.length ≤ 9223372036854775807 := Nat.le_trans hD.len hD.capb
  obtain ⟨A, hsl, hA⟩ := cut_mid hD n (n + k) (by omega) hn
  rw [show n + k - n = k by omega] at hsl hA
  rw [show ((n + k : Nat) : Int) = (n : Int) + (k : Int) by omega] at hsl
  have hpl : ((D.drop n).take k).length = k := by rw [List.length_take, List.length_drop]; omega
  generalize (D.drop n).take k = part at hA hpl ⊢
  generalize D.length = L at *
  have hlt := (Array.getElem?_eq_some_iff.1 h).1
  have HH := Lib.hid h
  have HA := Lib.hid hA
  have HSL := Lib.hid hsl
  clear h hA hsl hD
  go_enter Tryz.func26, Tryz.ntmps26
  go_wp2_with fail
  refine (HeldW.call (s := HeldW.start w) (gives_same hi)).mono ?_
  rintro e _ ⟨rfl, s1, rfl⟩
  clear hi
  go_wp2_with fail
  obtain ⟨V, hV⟩ : ∃ V, V = s1.w.heap.size := ⟨_, rfl⟩
  obtain ⟨W1, hW1⟩ : ∃ W1, W1 = s1.w.alloc (u64O 0) := ⟨_, rfl⟩
  have b1 : Below w.heap.size w W1 := by rw [hW1]; exact (s1.push (u64O 0)).below
  have hVb : w.heap.size ≤ V := by rw [hV]; exact s1.below.size
  have hVW : W1.heap[V]? = some (u64O 0) := by rw [hV, hW1]; exact World.alloc_heap_new s1.w _
  have hVl := (Array.getElem?_eq_some_iff.1 hVW).1
  rw [← hW1, ← hV]
  refine (read_ok 65 V g n L k dcap da A p W1 (fun w' => But V W1.heap.size W1 w' ∧ w'.heap[V]? = some (u64O (beval part))) (enters_of Tryz.func65 (by kernel_rfl) rfl) (heap_below HH.out b1) hn hL HSL.out (fun s => ?_) (fun w' hq => ?_)).mono ?_
  · have := uintC_any V (dcap - n) A part s.w (heap_below hVW s.below) (src_below (src_below (HA.out.src hVb) b1) s.below) (by omega)
    rw [hpl] at this
    refine this.mono ?_
    rintro e w' ⟨rfl, hb, ho⟩
    exact ⟨rfl, (But.of_below s.below).trans (hb.mono s.below.size), ho⟩
  · exact (hq.1.block g (by have := b1.size; omega) (by omega)).trans (heap_below HH.out b1)
  · rintro e _ ⟨rfl, w2, ⟨hb, ho⟩, rfl⟩
    have hg2 := (hb.block g (by have := b1.size; omega) (by omega)).trans (heap_below HH.out b1)
    have cV : (w2.setCell ⟨g, 0, none⟩ (.int .i64 (n + k : Nat))).cell? ⟨V, 0, none⟩ = some (.int .u64 (beval part)) := by
      rw [cell_of ((Below.heap_setCell _ _ _ _ (by simp only; omega)).trans ho)]; rfl
    have hfin : Hid (But g w.heap.size w (w2.setCell ⟨g, 0, none⟩ (.int .i64 (n + k : Nat))) ∧ (w2.setCell ⟨g, 0, none⟩ (.int .i64 (n + k : Nat))).heap[g]? = some (rdO (n + k) L da dcap 0 p)) :=
      Lib.hid ⟨((But.of_below b1).trans (But.of_below ((hb.mono b1.size).below hVb))).store 0 _, rd_set0 hg2 (n + k)⟩
    clear hb ho hg2 hVW hW1 hV
    generalize w2.setCell ⟨g, 0, none⟩ (.int .i64 (n + k : Nat)) = w3 at *
    go_wp2
    go_ret
    exact ⟨rfl, hfin.out⟩
end
end Go.Proofs.YtdedfjkenbaebaaGreatDoor

/- bytes.Clone, New, Bytes; Length and Expect of a reader that is not ready. -/
namespace Go.Proofs.YtdedfjkenbaebaaGreatDoor
open Go.RowKit
set_option linter.unusedVariables false
set_option linter.unusedSimpArgs false

set_option maxRecDepth 100000 in
theorem bclone_any (l : List Int) (a : Option Addr) (cap : Nat) (w : World) (hb : BytesIn w a l cap) (hm : l.length ≤ 1000000000) : Calls Tryz.prog 62 #[.slice a l.length cap] w (MakesR 5 (l.map (Value.int .u8)) w) := by
  cases a with
  | none =>
    obtain rfl : l = [] := List.eq_nil_of_length_eq_zero (hb.nil2 rfl rfl).1
    obtain rfl : cap = 0 := hb.nil rfl
    have hq := eq_nil8 none 0 0
    clear hb hm
    go_enter Tryz.func62, Tryz.ntmps62
    go_wp2
    go_ret
    exact ⟨_, rfl, ⟨w, Below.refl _ _, World.ownsRow_nil w w.heap.size 5 1⟩, rfl⟩
  | some ad =>
    obtain ⟨E⟩ := elem_of (P := Tryz.prog) (t := 22) (e := 5) (z := .int .u8 0) (n := 1) Tryz.underlying22 (by kernel_rfl) rfl (by omega)
    obtain ⟨so, hso⟩ := own_empty w
    have HSO := Lib.hid hso
    have HSRC := Lib.hid (hb.below so.below).news
    have HML := Lib.hid (show l.length = (l.map (Value.int .u8)).length from (List.length_map _).symm)
    have HLN := Lib.hid (show l.length ≤ 1000000000 from hm)
    have hq := eq_nil8 (some ad) l.length cap
    clear hso hb hm
    go_enter Tryz.func62, Tryz.ntmps62
    go_wp2_with (rw [HSO.out]; refine wpList_append_src E so (l.map (Value.int .u8)) (.tmp 5) (.tmp 6) rfl rfl rfl (some ad) l.length cap HML.out rfl (fun h => by cases h) HSRC.out (one_bytes _) (by rw [List.length_nil, List.length_map]; have := HLN.out; omega) ?_; intro v' s')
    go_ret
    exact ⟨_, rfl, s', rfl⟩

/-- A new reader of a copy of the bytes D. -/
def MakesRd (D : List Int) (w : World) (e : Ending) (w' : World) : Prop := ∃ g da dcap, e = .returned (.pointer (some ⟨g, 0, none⟩)) ∧ w.heap.size ≤ g ∧ Below w.heap.size w w' ∧ w'.heap[g]? = some (rdO 0 D.length da dcap 0 0) ∧ BytesIn w' da D dcap ∧ ∀ b o, da = some ⟨b, o, none⟩ → w.heap.size ≤ b ∧ b ≠ g

theorem own_setCell6 {w : World} {base b : Nat} {e : TypeId} {v : Value} {n : Nat} {xs : List Value} (h : w.ownsRow base e 1 v n xs) (hb : b < base) (i : Nat) (u : Value) : (w.setCell ⟨b, i, none⟩ u).ownsRow base e 1 v n xs :=
  ⟨h.1, h.2.imp id fun ⟨g, cap, cur, h1, h2, h3, h4⟩ => ⟨g, cap, cur, h1, h2, (Below.heap_setCell _ _ _ _ (by simp only; omega)).trans h3, h4⟩⟩

set_option maxRecDepth 100000 in
theorem wnew_any (l : List Int) (a : Option Addr) (cap : Nat) (w : World) (hb : BytesIn w a l cap) (hm : l.length ≤ 1000000000) : Calls Tryz.prog 25 #[.slice a l.length cap] w (MakesRd l w) := by
  have hc := bclone_any l a cap w hb hm
  obtain ⟨L, hL⟩ : ∃ L, l.length = L := ⟨_, rfl⟩
  have HL := Lib.hid hL
  rw [hL] at hc ⊢
  have hLb : L ≤ 9223372036854775807 := by omega
  clear hb hL
  go_enter Tryz.func25, Tryz.ntmps25
  go_wp2_with fail
  refine hc.mono ?_
  rintro e _ ⟨v, rfl, s, rfl⟩
  clear hc
  have hlt := s.own.lt
  obtain ⟨da, dcap, rfl, hD⟩ := s.bytesN HL.out
  have HD := Lib.hid hD
  have HLT := Lib.hid hlt
  clear hD hlt
  go_wp2
  go_ret
  have hb := (Below.refl s.w.heap.size s.w).alloc (Nat.le_refl _) (rdO 0 L da dcap 0 0)
  refine ⟨s.w.heap.size, da, dcap, rfl, s.below.size, s.below.alloc s.below.size _, by rw [HL.out]; exact World.alloc_heap_new s.w _, HD.out.below hb, ?_⟩
  rintro b o rfl
  have := HLT.out b (by simp [Value.ownBlock])
  omega

abbrev sliO (v : Value) : Obj := .cells #[v] 22 (0, 0)
/-- What the function value of Bytes does: a copy of the bytes lies behind the captured variable. -/
def Copied (V : Nat) (l : List Int) (w w' : World) : Prop := But V w.heap.size w w' ∧ ∃ v, w'.heap[V]? = some (sliO v) ∧ w'.ownsRow w.heap.size 5 1 v l.length (l.map (Value.int .u8))

set_option maxRecDepth 100000 in
theorem bytesC_any (V cap : Nat) (A : Option Addr) (l : List Int) (v0 : Value) (w : World) (hV : w.heap[V]? = some (sliO v0)) (hb : BytesIn w A l cap) (hl : l.length ≤ 1000000000) :
    Calls Tryz.prog 123 #[.slice A l.length cap, .pointer (some ⟨V, 0, none⟩)] w (fun e w' => e = .returned (.tuple #[]) ∧ Copied V l w w') := by
  have hc := bclone_any l A cap w hb hl
  have hlt := (Array.getElem?_eq_some_iff.1 hV).1
  have HV := Lib.hid hV
  have HLL := Lib.hid (show (l.map (Value.int .u8)).length = l.length from List.length_map _)
  clear hV hb
  go_enter Tryz.func123, Tryz.ntmps123
  go_wp2_with fail
  refine hc.mono ?_
  rintro e _ ⟨v, rfl, s, rfl⟩
  clear hc
  have hV1 := heap_below HV.out s.below
  have cV : s.w.cell? ⟨V, 0, none⟩ = some v0 := by rw [cell_of hV1]; rfl
  have fV := free_of hV1 0
  have hown := s.own
  rw [HLL.out] at hown
  have hfin : Hid (Copied V l w (s.w.setCell ⟨V, 0, none⟩ v)) := Lib.hid ⟨(But.of_below s.below).store 0 v, v, by rw [heap_setCell_same _ _ _ _ _ _ hV1]; rfl, own_setCell6 hown hlt 0 v⟩
  obtain ⟨a, c, rfl, _⟩ := s.view l.length HLL.out
  clear hV1 hown
  go_wp2
  go_end0
  exact ⟨rfl, hfin.out⟩

/-- It returns a new slice of bytes; of what was there only block g has changed: it holds o now. -/
def MakesPuts (g : Nat) (o : Obj) (l : List Int) (w : World) (e : Ending) (w' : World) : Prop := ∃ v, e = .returned v ∧ But g w.heap.size w w' ∧ w'.heap[g]? = some o ∧ w'.ownsRow w.heap.size 5 1 v l.length (l.map (Value.int .u8))

theorem wbytes_nil (k : Int) (w : World) : Calls Tryz.prog 86 #[.pointer none, .int .i64 k] w (Gives (.slice none 0 0) w) := by
  by_cases hk : k < 0
  · have ha := at_nil
    have hf := fail_nil
    have hd : decide (k < 0) = true := decide_eq_true hk
    clear hk
    go_enter Tryz.func86, Tryz.ntmps86
    go_wp2_with fail
    refine (HeldW.call (s := HeldW.start w) (gives_same (ha _))).mono ?_
    rintro e _ ⟨rfl, s2, rfl⟩
    go_wp2_with fail
    refine (HeldW.call (s := s2) (hf _ _ _)).mono ?_
    rintro e _ ⟨rfl, s3, rfl⟩
    go_wp2
    go_ret
    exact ⟨rfl, s3.below⟩
  · have hd : decide (k < 0) = false := decide_eq_false hk
    have hr := read_nil
    clear hk
    go_enter Tryz.func86, Tryz.ntmps86
    go_wp2_with fail
    refine (HeldW.call (s := (HeldW.start w).push (sliO (.slice none 0 0))) (hr _ _ _)).mono ?_
    rintro e _ ⟨rfl, s2, rfl⟩
    have cV : s2.w.cell? ⟨w.heap.size, 0, none⟩ = some (.slice none 0 0) := by rw [cell_of (s2.blocks (_, _) List.mem_cons_self)]; rfl
    clear hr
    go_wp2
    go_ret
    exact ⟨rfl, s2.below⟩

section
variable (g n L dcap : Nat) (da : Option Addr) (w : World)
theorem bytes_not (c p k : Int) (h : w.heap[g]? = some (rdO n L da dcap c p)) (hc : c ≠ 0) : Calls Tryz.prog 86 #[.pointer (some ⟨g, 0, none⟩), .int .i64 k] w (Gives (.slice none 0 0) w) := by
  have hr := fun (W : World) (H : W.heap[g]? = some (rdO n L da dcap c p)) u => read_not g n L dcap da c p k u W H hc
  have ha := fun (W : World) (H : W.heap[g]? = some (rdO n L da dcap c p)) => at_any g n L dcap da c p W H
  have hf := fun (W : World) (H : W.heap[g]? = some (rdO n L da dcap c p)) => fail_no g n L dcap da c p 2 n W H hc
  have HH := Lib.hid h
  clear h
  by_cases hk : k < 0
  · have hd : decide (k < 0) = true := decide_eq_true hk
    clear hk
    go_enter Tryz.func86, Tryz.ntmps86
    go_wp2_with fail
    refine (HeldW.call (s := HeldW.start w) (gives_same (ha _ HH.out))).mono ?_
    rintro e _ ⟨rfl, s2, rfl⟩
    go_wp2_with fail
    refine (HeldW.call (s := s2) (hf _ (heap_below HH.out s2.below))).mono ?_
    rintro e _ ⟨rfl, s3, rfl⟩
    go_wp2
    go_ret
    exact ⟨rfl, s3.below⟩
  · have hd : decide (k < 0) = false := decide_eq_false hk
    clear hk
    go_enter Tryz.func86, Tryz.ntmps86
    go_wp2_with fail
    refine (HeldW.call (s := (HeldW.start w).push (sliO (.slice none 0 0))) (hr _ (heap_below HH.out ((HeldW.start w).push (sliO (.slice none 0 0))).below) _)).mono ?_
    rintro e _ ⟨rfl, s2, rfl⟩
    have cV : s2.w.cell? ⟨w.heap.size, 0, none⟩ = some (.slice none 0 0) := by rw [cell_of (s2.blocks (_, _) List.mem_cons_self)]; rfl
    clear hr
    go_wp2
    go_ret
    exact ⟨rfl, s2.below⟩

theorem bytes_range (p k : Int) (h : w.heap[g]? = some (rdO n L da dcap 0 p)) (hk : k < 0) : Calls Tryz.prog 86 #[.pointer (some ⟨g, 0, none⟩), .int .i64 k] w (Puts g (rdO n L da dcap 2 n) (.slice none 0 0) w) := by
  have ha := fun (W : World) (H : W.heap[g]? = some (rdO n L da dcap 0 p)) => at_any g n L dcap da 0 p W H
  have hf := fun (W : World) (H : W.heap[g]? = some (rdO n L da dcap 0 p)) => fail_any g n L dcap da p 2 n W H (by omega)
  have hd : decide (k < 0) = true := decide_eq_true hk
  have HH := Lib.hid h
  clear h hk
  go_enter Tryz.func86, Tryz.ntmps86
  go_wp2_with fail
  refine (HeldW.call (s := HeldW.start w) (gives_same (ha _ HH.out))).mono ?_
  rintro e _ ⟨rfl, s2, rfl⟩
  go_wp2_with fail
  refine (hf _ (heap_below HH.out s2.below)).mono ?_
  rintro e w3 ⟨rfl, hb, ho⟩
  go_wp2
  go_ret
  exact ⟨rfl, (But.of_below s2.below).trans (hb.mono s2.below.size), ho⟩

theorem bytes_short (p k : Int) (h : w.heap[g]? = some (rdO n L da dcap 0 p)) (hk : 0 ≤ k) (hn : n ≤ L) (hL : L ≤ 9223372036854775807) (hs : (L : Int) - n < k) : Calls Tryz.prog 86 #[.pointer (some ⟨g, 0, none⟩), .int .i64 k] w (Puts g (rdO n L da dcap 8 L) (.slice none 0 0) w) := by
  have hr := fun (W : World) (H : W.heap[g]? = some (rdO n L da dcap 0 p)) u => read_short g n L dcap da p k u W H hn hL hs
  have hd : decide (k < 0) = false := decide_eq_false (by omega)
  have HH := Lib.hid h
  have hlt := (Array.getElem?_eq_some_iff.1 h).1
  clear h hk hn hL hs
  go_enter Tryz.func86, Tryz.ntmps86
  go_wp2_with fail
  refine (hr _ (heap_below HH.out ((HeldW.start w).push (sliO (.slice none 0 0))).below) _).mono ?_
  rintro e w3 ⟨rfl, hb, ho⟩
  have cV : w3.cell? ⟨w.heap.size, 0, none⟩ = some (.slice none 0 0) := by
    rw [cell_of ((hb.block w.heap.size (by simp) (by omega)).trans (World.alloc_heap_new w _))]; rfl
  clear hr hlt
  go_wp2
  go_ret
  exact ⟨rfl, (But.of_below ((HeldW.start w).push (sliO (.slice none 0 0))).below).trans (hb.mono ((HeldW.start w).push (sliO (.slice none 0 0))).below.size), ho⟩

theorem bytes_ok (D : List Int) (p : Int) (k : Nat) (h : w.heap[g]? = some (rdO n D.length da dcap 0 p)) (hn : n + k ≤ D.length) (hD : BytesIn w da D dcap) (hk : k ≤ 1000000000) :
    Calls Tryz.prog 86 #[.pointer (some ⟨g, 0, none⟩), .int .i64 k] w (MakesPuts g (rdO (n + k) D.length da dcap 0 p) ((D.drop n).take k) w) := by
  have hd : decide ((k : Int) < 0) = false := decide_eq_false (by omega)
  have hL : D.length ≤ 9223372036854775807 := Nat.le_trans hD.len hD.capb
  obtain ⟨A, hsl, hA⟩ := cut_mid hD n (n + k) (by omega) hn
  rw [show n + k - n = k by omega] at hsl hA
  rw [show ((n + k : Nat) : Int) = (n : Int) + (k : Int) by omega] at hsl
  have hpl : ((D.drop n).take k).length = k := by rw [List.length_take, List.length_drop]; omega
  generalize (D.drop n).take k = part at hA hpl ⊢
  generalize D.length = L at *
  have hlt := (Array.getElem?_eq_some_iff.1 h).1
  have HH := Lib.hid h
  have HA := Lib.hid hA
  have HSL := Lib.hid hsl
  have HPL := Lib.hid hpl
  clear h hA hsl hD hpl
  go_enter Tryz.func86, Tryz.ntmps86
  go_wp2_with fail
  obtain ⟨V, hV⟩ : ∃ V, V = w.heap.size := ⟨_, rfl⟩
  obtain ⟨W1, hW1⟩ : ∃ W1, W1 = w.alloc (sliO (.slice none 0 0)) := ⟨_, rfl⟩
  have b1 : Below w.heap.size w W1 := by rw [hW1]; exact ((HeldW.start w).push (sliO (.slice none 0 0))).below
  have hVb : w.heap.size ≤ V := by omega
  have hVW : W1.heap[V]? = some (sliO (.slice none 0 0)) := by rw [hV, hW1]; exact World.alloc_heap_new w _
  have hVl := (Array.getElem?_eq_some_iff.1 hVW).1
  rw [← hW1, ← hV]
  refine (read_ok 123 V g n L k dcap da A p W1 (fun w' => Copied V part W1 w') (enters_of Tryz.func123 (by kernel_rfl) rfl) (heap_below HH.out b1) hn hL HSL.out (fun s => ?_) (fun w' hq => ?_)).mono ?_
  · have := bytesC_any V (dcap - n) A part _ s.w (heap_below hVW s.below) ((HA.out.below b1).W s) (by rw [HPL.out]; exact hk)
    rw [HPL.out] at this
    refine this.mono ?_
    rintro e w' ⟨rfl, hb, v, ho, hr⟩
    exact ⟨rfl, (But.of_below s.below).trans (hb.mono s.below.size), v, ho, hr.1, hr.2.imp id fun ⟨g, cap, cur, h1, h2, h3⟩ => ⟨g, cap, cur, h1, Nat.le_trans s.below.size h2, h3⟩⟩
  · exact (hq.1.block g (by have := b1.size; omega) (by omega)).trans (heap_below HH.out b1)
  · rintro e _ ⟨rfl, w2, ⟨hb, v, ho, hr⟩, rfl⟩
    have hg2 := (hb.block g (by have := b1.size; omega) (by omega)).trans (heap_below HH.out b1)
    have cV : (w2.setCell ⟨g, 0, none⟩ (.int .i64 (n + k : Nat))).cell? ⟨V, 0, none⟩ = some v := by
      rw [cell_of ((Below.heap_setCell _ _ _ _ (by simp only; omega)).trans ho)]; rfl
    have hr2 := own_setCell6 hr (by have := b1.size; omega : g < W1.heap.size) 0 (.int .i64 (n + k : Nat))
    have hr3 : (w2.setCell ⟨g, 0, none⟩ (.int .i64 (n + k : Nat))).ownsRow w.heap.size 5 1 v part.length (part.map (Value.int .u8)) := ⟨hr2.1, hr2.2.imp id fun ⟨g, cap, cur, h1, h2, h3⟩ => ⟨g, cap, cur, h1, Nat.le_trans b1.size h2, h3⟩⟩
    have hfin : Hid (MakesPuts g (rdO (n + k) L da dcap 0 p) part w (.returned v) (w2.setCell ⟨g, 0, none⟩ (.int .i64 (n + k : Nat)))) :=
      Lib.hid ⟨v, rfl, ((But.of_below b1).trans (But.of_below ((hb.mono b1.size).below hVb))).store 0 _, rd_set0 hg2 (n + k), hr3⟩
    clear hb ho hg2 hVW hW1 hV hr hr2 hr3
    generalize w2.setCell ⟨g, 0, none⟩ (.int .i64 (n + k : Nat)) = w3 at *
    go_wp2
    go_ret
    exact hfin.out
end

theorem length_nil (w : World) : Calls Tryz.prog 85 #[.pointer none] w (Gives (.int .i64 0) w) := by
  have ha := at_nil
  have hu := uint_nil 8
  go_enter Tryz.func85, Tryz.ntmps85
  go_wp2_with fail
  refine (HeldW.call (s := HeldW.start w) (gives_same (ha _))).mono ?_
  rintro e _ ⟨rfl, s1, rfl⟩
  go_wp2_with fail
  refine (HeldW.call (s := s1) (hu _)).mono ?_
  rintro e _ ⟨rfl, s2, rfl⟩
  go_wp2
  go_ret
  exact ⟨rfl, s2.below⟩
theorem length_not (g n L dcap : Nat) (da : Option Addr) (w : World) (c p : Int) (h : w.heap[g]? = some (rdO n L da dcap c p)) (hc : c ≠ 0) : Calls Tryz.prog 85 #[.pointer (some ⟨g, 0, none⟩)] w (Gives (.int .i64 0) w) := by
  have ha := fun (W : World) (H : W.heap[g]? = some (rdO n L da dcap c p)) => at_any g n L dcap da c p W H
  have hu := fun (W : World) (H : W.heap[g]? = some (rdO n L da dcap c p)) => uint_not g n L dcap da W c p 8 H hc
  have HH := Lib.hid h
  clear h
  go_enter Tryz.func85, Tryz.ntmps85
  go_wp2_with fail
  refine (HeldW.call (s := HeldW.start w) (gives_same (ha _ HH.out))).mono ?_
  rintro e _ ⟨rfl, s1, rfl⟩
  go_wp2_with fail
  refine (HeldW.call (s := s1) (hu _ (heap_below HH.out s1.below))).mono ?_
  rintro e _ ⟨rfl, s2, rfl⟩
  go_wp2
  go_ret
  exact ⟨rfl, s2.below⟩
theorem expect_nil (v : Value) (code : Int) (w : World) : Calls Tryz.prog 84 #[.pointer none, v, .int .i64 code] w (Gives (.bool false) w) := by
  have hr := ready_nil w
  go_enter Tryz.func84, Tryz.ntmps84
  go_wp2_with fail
  refine (HeldW.call (s := HeldW.start w) hr).mono ?_
  rintro e _ ⟨rfl, s1, rfl⟩
  go_wp2
  go_ret
  exact ⟨rfl, s1.below⟩
theorem expect_not (g n L dcap : Nat) (da : Option Addr) (w : World) (v : Value) (c p code : Int) (h : w.heap[g]? = some (rdO n L da dcap c p)) (hc : c ≠ 0) : Calls Tryz.prog 84 #[.pointer (some ⟨g, 0, none⟩), v, .int .i64 code] w (Gives (.bool false) w) := by
  have hr := ready_any g n L dcap da c p w h
  rw [decide_eq_false hc] at hr
  clear h hc
  go_enter Tryz.func84, Tryz.ntmps84
  go_wp2_with fail
  refine (HeldW.call (s := HeldW.start w) (gives_same hr)).mono ?_
  rintro e _ ⟨rfl, s1, rfl⟩
  go_wp2
  go_ret
  exact ⟨rfl, s1.below⟩
end Go.Proofs.YtdedfjkenbaebaaGreatDoor
