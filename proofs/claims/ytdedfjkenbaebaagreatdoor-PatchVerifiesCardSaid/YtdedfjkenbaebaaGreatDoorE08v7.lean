import Derived.Laws.Cover3
import Derived.BigQuiet
import Derived.Deep.QuietTactic
import Derived.LoopTactic
import Derived.Test.YtdedfjkenbaebaaGreatDoorE08v2
import Derived.Test.YtdedfjkenbaebaaGreatDoorE08v5
import Derived.Test.YtdedfjkenbaebaaGreatDoorE08v1
/- slices.Clone of bytes. -/
namespace Go.Proofs.YtdedfjkenbaebaaGreatDoor
open Go.RowKit
set_option linter.unusedVariables false

/-- What wpList_append_src wants of a slice that came in. -/
theorem BytesIn.nil2 {w : World} {a : Option Addr} {l : List Int} {cap : Nat} (h : BytesIn w a l cap) {n : Nat} (hn : n = l.length) : a = none → n = 0 ∧ cap = 0 := fun h0 => by
  have := h.nil h0; have := h.len; omega
theorem BytesIn.news {w : World} {a : Option Addr} {l : List Int} {cap : Nat} (h : BytesIn w a l cap) : ∀ ad, a = some ad → ∀ j u, (l.map (Value.int .u8))[j]? = some u → w.cell? (ad.add j) = some u := fun ad had j u hu => by
  have hj := (List.getElem?_eq_some_iff.1 hu).1
  rw [List.length_map] at hj
  obtain ⟨b, o, h1, hc⟩ := h.cells (by omega)
  obtain rfl := Option.some.inj (had.symm.trans h1)
  rw [Addr.add_mid, hc j hj]
  rw [List.getElem?_map] at hu
  obtain ⟨x, hx, rfl⟩ := Option.map_eq_some_iff.1 hu
  rw [hx]; rfl
theorem BytesIn.below {w w' : World} {a : Option Addr} {l : List Int} {cap : Nat} (h : BytesIn w a l cap) (hb : Below w.heap.size w w') : BytesIn w' a l cap := h.W (bs := []) ⟨w', hb, by simp⟩

/-- An owned slice of bytes can be read. -/
theorem OwnW.bytes {w0 : World} {e : TypeId} {v : Value} {l : List Int} (s : OwnW w0 e v (l.map (Value.int .u8))) : ∃ (a : Option Addr) (cap : Nat), v = .slice a l.length cap ∧ BytesIn s.w a l cap := by
  have hl : (l.map (Value.int .u8)).length = l.length := List.length_map _
  rcases s.own.2 with ⟨h1, h0⟩ | ⟨g, cap, cur, hv, hg, hb, hc, hm, _, ht⟩
  · rw [hl] at h0
    obtain rfl := List.eq_nil_of_length_eq_zero h0
    exact ⟨none, 0, h1, by simp, by omega, fun h => absurd h (by simp), fun _ => rfl⟩
  · rw [hl] at hv hc
    subst hv
    refine ⟨_, cap, rfl, hc, by unfold maxLen at hm; omega, fun hp => ⟨g, 0, rfl, fun i hi => ?_⟩, fun h => by cases h⟩
    have hown := s.own.cells (g := g) rfl i (.int .u8 (l[i]?.getD 0)) (by rw [List.getElem?_map, List.getElem?_eq_getElem hi]; rfl)
    rwa [Addr.add_mid] at hown
theorem OwnW.bytesN {w0 : World} {e : TypeId} {v : Value} {l : List Int} (s : OwnW w0 e v (l.map (Value.int .u8))) {n : Nat} (hn : l.length = n) : ∃ (a : Option Addr) (cap : Nat), v = .slice a n cap ∧ BytesIn s.w a l cap := by subst hn; exact s.bytes
/-- A literal of bytes that a string shares. -/
theorem lit_bytes {w : World} {l : List Int} {n : Nat} (hn : l.length = n) (hl : l.length ≤ 9223372036854775807) : BytesIn (w.alloc (.cells (byteA l) 5 (n, n + 1))) (some ⟨w.heap.size, 0, none⟩) l n := by
  subst hn
  exact ⟨Nat.le_refl _, hl, fun _ => ⟨w.heap.size, 0, rfl, fun i hi => by rw [Nat.zero_add, cell_of_row _ w.heap.size _ _ _ _ (World.alloc_heap_new w _), byteA_get l hi]⟩, fun h => by cases h⟩

theorem eq_nil8 (a : Option Addr) (n c : Nat) (w : World) : (binOp .eql 22 (.slice a n c) (.slice none 0 0)).run Tryz.prog w = .ok (.bool a.isNone) w := by
  simp [binOp, run_equal_slice_nil w 22 5 a n c Tryz.underlying22]

set_option maxRecDepth 100000 in
theorem clone8_any (l : List Int) (a : Option Addr) (cap : Nat) (w : World) (hb : BytesIn w a l cap) (hm : l.length ≤ 1000000) : Calls Tryz.prog 148 #[.slice a l.length cap] w (MakesR 5 (l.map (Value.int .u8)) w) := by
  cases a with
  | none =>
    obtain rfl : l = [] := List.eq_nil_of_length_eq_zero (hb.nil2 rfl rfl).1
    obtain rfl : cap = 0 := hb.nil rfl
    have hq := eq_nil8 none 0 0
    clear hb hm
    go_enter Tryz.func148, Tryz.ntmps148
    go_wp2
    go_ret
    exact ⟨_, rfl, ⟨w, Below.refl _ _, World.ownsRow_nil w w.heap.size 5 1⟩, rfl⟩
  | some ad =>
    obtain ⟨E⟩ := elem_of (P := Tryz.prog) (t := 22) (e := 5) (z := .int .u8 0) (n := 1) Tryz.underlying22 (by kernel_rfl) rfl (by omega)
    obtain ⟨so, hso⟩ := own_empty w
    have HSO := Lib.hid hso
    have HSRC := Lib.hid (hb.below so.below).news
    have HML := Lib.hid (show l.length = (l.map (Value.int .u8)).length from (List.length_map _).symm)
    have HLN := Lib.hid (show l.length ≤ 1000000 from hm)
    have hq := eq_nil8 (some ad) l.length cap
    clear hso hb hm
    go_enter Tryz.func148, Tryz.ntmps148
    go_wp2_with (rw [HSO.out]; refine wpList_append_src E so (l.map (Value.int .u8)) (.tmp 5) (.tmp 6) rfl rfl rfl (some ad) l.length cap HML.out rfl (fun h => by cases h) HSRC.out (one_bytes _) (by rw [List.length_nil, List.length_map]; have := HLN.out; omega) ?_; intro v' s')
    go_ret
    exact ⟨_, rfl, s', rfl⟩
end Go.Proofs.YtdedfjkenbaebaaGreatDoor

/- What the small functions of package extent and of its reference return; each leaves what was there. -/
namespace Go.Proofs.YtdedfjkenbaebaaGreatDoor
open Go.RowKit Go.Shelf Go.Proofs.YtdedfjkenbaebaaGreatDoor.Plain01

/-- A boxed extent: the block. -/
abbrev extO (x : Int × Int) : Obj := .cells #[.int .i64 x.1, .int .i64 x.2] 95 (0, 0)

/-- The cells of an extent's block. -/
theorem ext_cells {w : World} {b : Nat} {x : Int × Int} (h : w.heap[b]? = some (extO x)) : w.cell? ⟨b, 0, none⟩ = some (.int .i64 x.1) ∧ w.cell? ⟨b, 1, none⟩ = some (.int .i64 x.2) ∧ ∀ i, w.frozen? ⟨b, i, none⟩ = false :=
  ⟨by rw [cell_of h]; rfl, by rw [cell_of h]; rfl, fun i => free_of h i⟩
theorem held_ext (w0 : World) {bs : List (Nat × Obj)} (b : Nat) (x : Int × Int) (hm : (b, extO x) ∈ bs) :
    (∀ s : HeldW w0 bs, s.w.cell? ⟨b, 0, none⟩ = some (.int .i64 x.1)) ∧ (∀ s : HeldW w0 bs, s.w.cell? ⟨b, 1, none⟩ = some (.int .i64 x.2)) :=
  ⟨fun s => (ext_cells (s.blocks _ hm)).1, fun s => (ext_cells (s.blocks _ hm)).2.1⟩

theorem held_ext1 {w0 : World} {bs : List (Nat × Obj)} (s : HeldW w0 bs) (b : Nat) (x : Int × Int) (hm : (b, extO x) ∈ bs) :
    s.w.cell? ⟨b, 0, none⟩ = some (.int .i64 x.1) ∧ s.w.cell? ⟨b, 1, none⟩ = some (.int .i64 x.2) ∧ ∀ i, s.w.frozen? ⟨b, i, none⟩ = false := ext_cells (s.blocks _ hm)

theorem held_extA {w0 : World} {bs : List (Nat × Obj)} (_ : HeldW w0 bs) (b : Nat) (x : Int × Int) (hm : (b, extO x) ∈ bs) :
    (∀ s : HeldW w0 bs, s.w.cell? ⟨b, 0, none⟩ = some (.int .i64 x.1)) ∧ (∀ s : HeldW w0 bs, s.w.cell? ⟨b, 1, none⟩ = some (.int .i64 x.2)) := held_ext w0 b x hm
/-- The cells of a listed extent, and that its block is an old one. -/
theorem held_ext2 {w0 : World} {bs : List (Nat × Obj)} (s : HeldW w0 bs) (b : Nat) (x : Int × Int) (hm : (b, extO x) ∈ bs) :
    s.w.cell? ⟨b, 0, none⟩ = some (.int .i64 x.1) ∧ s.w.cell? ⟨b, 1, none⟩ = some (.int .i64 x.2) ∧ b < s.w.heap.size := ⟨(ext_cells (s.blocks _ hm)).1, (ext_cells (s.blocks _ hm)).2.1, (Array.getElem?_eq_some_iff.1 (s.blocks _ hm)).1⟩

/-- A boxed extent, behind a callee. -/
theorem boxed_ext {w w1 : World} {o : Obj} (hb1 : Below (w.alloc o).heap.size (w.alloc o) w1) :
    w1.heap[w.heap.size]? = some o ∧ Below w.heap.size w w1 :=
  ⟨heap_below (heap_new w o rfl) hb1, ((Below.refl w.heap.size w).alloc (Nat.le_refl _) _).trans (hb1.mono (by simp))⟩

theorem valid_gives (x : Int × Int) (h0 : I64 x.1) (h1 : I64 x.2) (w : World) : Calls Tryz.prog 90 #[extV x] w (Gives (.bool (okE x)) w) := gives_alloc (valid_any x.1 x.2 h0 h1 w)
theorem end_gives (x : Int × Int) (h : okE x = true) (w : World) : Calls Tryz.prog 93 #[extV x] w (Gives (.int .i64 (x.1 + x.2)) w) := by
  rw [okE_iff] at h
  exact gives_alloc (end_any x.1 x.2 h.1 h.2.1 h.2.2 w)

theorem end_gives2 (p q : Int) (hp : 0 ≤ p) (hq : 0 ≤ q) (hs : p + q ≤ 4611686018427387903) (w : World) : Calls Tryz.prog 93 #[.agg #[.int .i64 p, .int .i64 q]] w (Gives (.int .i64 (p + q)) w) :=
  gives_alloc (end_any p q hp hq hs w)

theorem okE_false {x : Int × Int} (h : ¬ (0 ≤ x.1 ∧ 0 ≤ x.2 ∧ x.1 + x.2 ≤ 4611686018427387903)) : okE x = false := by rw [Bool.eq_false_iff, Ne, okE_iff]; exact h

theorem rmax_any (w : World) : Calls Tryz.prog 53 #[] w fun e w' => e = .returned (.int .i64 4611686018427387903) ∧ w' = w := by
  go_enter Tryz.func53, Tryz.ntmps53
  go_wp2
  go_ret
  exact ⟨rfl, rfl⟩

theorem rvalid_any (off len : Int) (h0 : I64 off) (h1 : I64 len) (w : World) :
    Calls Tryz.prog 133 #[extV (off, len)] w fun e w' => e = .returned (.bool (okE (off, len))) ∧ ∃ nq, w' = (w.alloc (.cells #[.int .i64 off, .int .i64 len] 95)).drewN nq := by
  unfold I64 at h0 h1
  by_cases c1 : 0 ≤ off
  · by_cases c2 : 0 ≤ len
    · by_cases c3 : off ≤ 4611686018427387903
      · by_cases c4 : len ≤ 4611686018427387903 - off
        · have e : okE (off, len) = true := by rw [okE_iff]; simp; omega
          have d1 : decide (len ≤ 4611686018427387903 - off) = true := by simp; omega
          go_enter Tryz.func133, Tryz.ntmps133
          go_wp2
          go_quiet ((go_at_call 53; exact Calls.quiet_of_same (rmax_any _)))
          go_wp2
          go_ret
          exact ⟨by rw [e]; rfl, _, rfl⟩
        · have e : okE (off, len) = false := okE_false (by simp; omega)
          have d1 : decide (len ≤ 4611686018427387903 - off) = false := by simp; omega
          go_enter Tryz.func133, Tryz.ntmps133
          go_wp2
          go_quiet ((go_at_call 53; exact Calls.quiet_of_same (rmax_any _)))
          go_wp2
          go_ret
          exact ⟨by rw [e]; rfl, _, rfl⟩
      · have e : okE (off, len) = false := okE_false (by simp; omega)
        have d1 : decide (off ≤ 4611686018427387903) = false := by simp; omega
        go_enter Tryz.func133, Tryz.ntmps133
        go_wp2
        go_quiet ((go_at_call 53; exact Calls.quiet_of_same (rmax_any _)))
        go_wp2
        go_ret
        exact ⟨by rw [e]; rfl, _, rfl⟩
    · have e : okE (off, len) = false := okE_false (by simp; omega)
      have d1 : decide (0 ≤ len) = false := by simp; omega
      go_enter Tryz.func133, Tryz.ntmps133
      go_wp2
      go_quiet ((go_at_call 53; exact Calls.quiet_of_same (rmax_any _)))
      go_wp2
      go_ret
      exact ⟨by rw [e]; rfl, _, rfl⟩
  · have e : okE (off, len) = false := okE_false (by simp; omega)
    have d1 : decide (0 ≤ off) = false := by simp; omega
    go_enter Tryz.func133, Tryz.ntmps133
    go_wp2
    go_quiet ((go_at_call 53; exact Calls.quiet_of_same (rmax_any _)))
    go_wp2
    go_ret
    exact ⟨by rw [e]; rfl, _, rfl⟩
theorem rvalid_gives (x : Int × Int) (h0 : I64 x.1) (h1 : I64 x.2) (w : World) : Calls Tryz.prog 133 #[extV x] w (Gives (.bool (okE x)) w) := gives_drew (rvalid_any x.1 x.2 h0 h1 w)

end Go.Proofs.YtdedfjkenbaebaaGreatDoor

/- Contains of package extent, at a slice of extents that came in or was made. -/
namespace Go.Proofs.YtdedfjkenbaebaaGreatDoor
open Go.RowKit Go.Shelf Go.Proofs.YtdedfjkenbaebaaGreatDoor.Plain01

/-- The first n of f lie within e. -/
def insE (e x : Int × Int) : Prop := e.1 ≤ x.1 ∧ x.1 + x.2 ≤ e.1 + e.2
instance (e x : Int × Int) : Decidable (insE e x) := by unfold insE; exact inferInstance
def insB (e : Int × Int) (n : Nat) (f : Nat → Int × Int) : Bool := decide (∀ i, i < n → insE e (f i))

theorem insB_no {e : Int × Int} {n k : Nat} {f : Nat → Int × Int} (hk : k < n) (h : ¬ insE e (f k)) : insB e n f = false := by
  unfold insB; simp only [decide_eq_false_iff_not]; intro h'; exact h (h' k hk)
theorem insB_yes {e : Int × Int} {n : Nat} {f : Nat → Int × Int} (h : ∀ i, i < n → insE e (f i)) : insB e n f = true := by
  unfold insB; simp only [decide_eq_true_eq]; exact h

theorem ins_succ {e : Int × Int} {k : Nat} {f : Nat → Int × Int} (h : ∀ j, j < k → insE e (f j)) (hk : insE e (f k)) : ∀ j, j < k + 1 → insE e (f j) := fun j hj => by
  by_cases hjk : j < k
  · exact h j hjk
  · obtain rfl : j = k := by omega
    exact hk

theorem all_succ {p : Nat → Bool} {k : Nat} (h : ∀ j, j < k → p j = true) (hk : p k = true) : ∀ j, j < k + 1 → p j = true := fun j hj => by
  by_cases hjk : j < k
  · exact h j hjk
  · obtain rfl : j = k := by omega
    exact hk

/-- A slice of n extents. -/
def ExtSlice (w : World) (a : Option Addr) (n : Nat) (f : Nat → Int × Int) : Prop := 0 < n → ∃ b o, a = some ⟨b, o, none⟩ ∧ ExtRow w b o n f

theorem ExtRow.lt {w : World} {b o n : Nat} {f : Nat → Int × Int} (h : ExtRow w b o n f) (hn : 0 < n) : b < w.heap.size := World.block_lt_of_cell? w _ (h 0 hn).1

theorem ExtSlice.below {w w' : World} {a : Option Addr} {n : Nat} {f : Nat → Int × Int} (h : ExtSlice w a n f) (hb : Below w.heap.size w w') : ExtSlice w' a n f := fun hn => by
  obtain ⟨b, o, ha, hr⟩ := h hn
  exact ⟨b, o, ha, hr.below hb (hr.lt hn)⟩

theorem insB_succ (e : Int × Int) (k : Nat) (f : Nat → Int × Int) : insB e (k + 1) f = (insB e k f && decide (insE e (f k))) := by
  by_cases hin : insE e (f k)
  · by_cases h : ∀ i, i < k → insE e (f i)
    · rw [insB_yes h, insB_yes (ins_succ h hin), decide_eq_true hin]; rfl
    · have : insB e k f = false := by unfold insB; simp only [decide_eq_false_iff_not]; exact h
      rw [this, Bool.false_and]
      unfold insB; simp only [decide_eq_false_iff_not]; exact fun h' => h fun i hi => h' i (by omega)
  · rw [insB_no (k := k) (by omega) hin, decide_eq_false hin, Bool.and_false]

end Go.Proofs.YtdedfjkenbaebaaGreatDoor

/- Commands: values, boxed commands, what they say; the description of package command. -/
namespace Go.Proofs.YtdedfjkenbaebaaGreatDoor
open Go.RowKit Go.Shelf Go.Proofs.YtdedfjkenbaebaaGreatDoor.Plain01
set_option linter.unusedVariables false

/-- A command with the data v. -/
abbrev cmdV (k t f n : Int) (v : Value) : Value := .agg #[.int .i64 k, .int .i64 t, .int .i64 f, .int .i64 n, v]
/-- A boxed command. -/
abbrev cmdO (k t f n : Int) (v : Value) : Obj := .cells #[.int .i64 k, .int .i64 t, .int .i64 f, .int .i64 n, v] 62 (0, 0)

theorem cmd_cells {w : World} {b : Nat} {k t f n : Int} {v : Value} (h : w.heap[b]? = some (cmdO k t f n v)) :
    w.cell? ⟨b, 0, none⟩ = some (.int .i64 k) ∧ w.cell? ⟨b, 1, none⟩ = some (.int .i64 t) ∧ w.cell? ⟨b, 2, none⟩ = some (.int .i64 f) ∧ w.cell? ⟨b, 3, none⟩ = some (.int .i64 n) ∧ w.cell? ⟨b, 4, none⟩ = some v :=
  ⟨by rw [cell_of h]; rfl, by rw [cell_of h]; rfl, by rw [cell_of h]; rfl, by rw [cell_of h]; rfl, by rw [cell_of h]; rfl⟩
/-- The facts of a listed command, and that its block is an old one. -/
theorem held_cmd {w0 : World} {bs : List (Nat × Obj)} (s : HeldW w0 bs) (b : Nat) (k t f n : Int) (v : Value) (hm : (b, cmdO k t f n v) ∈ bs) :
    s.w.cell? ⟨b, 0, none⟩ = some (.int .i64 k) ∧ s.w.cell? ⟨b, 1, none⟩ = some (.int .i64 t) ∧ s.w.cell? ⟨b, 2, none⟩ = some (.int .i64 f) ∧ s.w.cell? ⟨b, 3, none⟩ = some (.int .i64 n) ∧ s.w.cell? ⟨b, 4, none⟩ = some v ∧ b < s.w.heap.size := by
  obtain ⟨h0, h1, h2, h3, h4⟩ := cmd_cells (s.blocks _ hm)
  exact ⟨h0, h1, h2, h3, h4, (Array.getElem?_eq_some_iff.1 (s.blocks _ hm)).1⟩
theorem held_cmdA {w0 : World} {bs : List (Nat × Obj)} (_ : HeldW w0 bs) (b : Nat) (k t f n : Int) (v : Value) (hm : (b, cmdO k t f n v) ∈ bs) :
    (∀ s : HeldW w0 bs, s.w.cell? ⟨b, 0, none⟩ = some (.int .i64 k)) ∧ (∀ s : HeldW w0 bs, s.w.cell? ⟨b, 1, none⟩ = some (.int .i64 t)) ∧ (∀ s : HeldW w0 bs, s.w.cell? ⟨b, 2, none⟩ = some (.int .i64 f)) ∧ (∀ s : HeldW w0 bs, s.w.cell? ⟨b, 3, none⟩ = some (.int .i64 n)) ∧ (∀ s : HeldW w0 bs, s.w.cell? ⟨b, 4, none⟩ = some v) :=
  ⟨fun s => (cmd_cells (s.blocks _ hm)).1, fun s => (cmd_cells (s.blocks _ hm)).2.1, fun s => (cmd_cells (s.blocks _ hm)).2.2.1, fun s => (cmd_cells (s.blocks _ hm)).2.2.2.1, fun s => (cmd_cells (s.blocks _ hm)).2.2.2.2⟩

/-- The same; it may be written. -/
theorem held_cmdF {w0 : World} {bs : List (Nat × Obj)} (s : HeldW w0 bs) (b : Nat) (k t f n : Int) (v : Value) (hm : (b, cmdO k t f n v) ∈ bs) :
    s.w.cell? ⟨b, 0, none⟩ = some (.int .i64 k) ∧ s.w.cell? ⟨b, 1, none⟩ = some (.int .i64 t) ∧ s.w.cell? ⟨b, 2, none⟩ = some (.int .i64 f) ∧ s.w.cell? ⟨b, 3, none⟩ = some (.int .i64 n) ∧ s.w.cell? ⟨b, 4, none⟩ = some v ∧ b < s.w.heap.size ∧ ∀ i, s.w.frozen? ⟨b, i, none⟩ = false := by
  obtain ⟨h0, h1, h2, h3, h4⟩ := cmd_cells (s.blocks _ hm)
  exact ⟨h0, h1, h2, h3, h4, (Array.getElem?_eq_some_iff.1 (s.blocks _ hm)).1, fun i => free_of (s.blocks _ hm) i⟩

/-- A description, boxed. -/
abbrev descO (x0 x1 x2 x3 x4 : Int) (b : Bool) : Obj := .cells #[.int .i64 x0, .int .i64 x1, .int .i64 x2, .int .i64 x3, .int .i64 x4, .bool b] 172 (0, 0)
theorem held_desc {w0 : World} {bs : List (Nat × Obj)} (s : HeldW w0 bs) (b : Nat) (x0 x1 x2 x3 x4 : Int) (d : Bool) (hm : (b, descO x0 x1 x2 x3 x4 d) ∈ bs) :
    s.w.cell? ⟨b, 0, none⟩ = some (.int .i64 x0) ∧ s.w.cell? ⟨b, 1, none⟩ = some (.int .i64 x1) ∧ s.w.cell? ⟨b, 2, none⟩ = some (.int .i64 x2) ∧ s.w.cell? ⟨b, 3, none⟩ = some (.int .i64 x3) ∧ s.w.cell? ⟨b, 4, none⟩ = some (.int .i64 x4) ∧ s.w.cell? ⟨b, 5, none⟩ = some (.bool d) ∧ b < s.w.heap.size := by
  have h := s.blocks _ hm
  exact ⟨by rw [cell_of h]; rfl, by rw [cell_of h]; rfl, by rw [cell_of h]; rfl, by rw [cell_of h]; rfl, by rw [cell_of h]; rfl, by rw [cell_of h]; rfl, (Array.getElem?_eq_some_iff.1 h).1⟩
theorem held_descA {w0 : World} {bs : List (Nat × Obj)} (_ : HeldW w0 bs) (b : Nat) (x0 x1 x2 x3 x4 : Int) (d : Bool) (hm : (b, descO x0 x1 x2 x3 x4 d) ∈ bs) :
    (∀ s : HeldW w0 bs, s.w.cell? ⟨b, 0, none⟩ = some (.int .i64 x0)) ∧ (∀ s : HeldW w0 bs, s.w.cell? ⟨b, 1, none⟩ = some (.int .i64 x1)) ∧ (∀ s : HeldW w0 bs, s.w.cell? ⟨b, 2, none⟩ = some (.int .i64 x2)) ∧ (∀ s : HeldW w0 bs, s.w.cell? ⟨b, 3, none⟩ = some (.int .i64 x3)) ∧ (∀ s : HeldW w0 bs, s.w.cell? ⟨b, 4, none⟩ = some (.int .i64 x4)) ∧ (∀ s : HeldW w0 bs, s.w.cell? ⟨b, 5, none⟩ = some (.bool d)) :=
  ⟨fun s => by rw [cell_of (s.blocks _ hm)]; rfl, fun s => by rw [cell_of (s.blocks _ hm)]; rfl, fun s => by rw [cell_of (s.blocks _ hm)]; rfl, fun s => by rw [cell_of (s.blocks _ hm)]; rfl, fun s => by rw [cell_of (s.blocks _ hm)]; rfl, fun s => by rw [cell_of (s.blocks _ hm)]; rfl⟩

/-- The bytes that a command writes: how many. -/
def wlen (k n : Int) (L : Nat) : Int := if k = 1 then n else L
/-- The cells of the description of a command. -/
def descA (k t f n : Int) (L : Nat) : Array Value :=
  if k = 1 then #[.int .i64 t, .int .i64 n, .int .i64 1, .int .i64 f, .int .i64 n, .bool (decide (0 < L))]
  else if k = 2 then #[.int .i64 t, .int .i64 L, .int .i64 2, .int .i64 0, .int .i64 0, .bool (decide (f ≠ 0 ∨ n ≠ 0))]
  else #[.int .i64 0, .int .i64 0, .int .i64 0, .int .i64 0, .int .i64 0, .bool false]

theorem descA_copy (t f n : Int) (L : Nat) : descA 1 t f n L = #[.int .i64 t, .int .i64 n, .int .i64 1, .int .i64 f, .int .i64 n, .bool (decide (0 < L))] := by unfold descA; rw [if_pos rfl]
theorem descA_lit (t f n : Int) (L : Nat) : descA 2 t f n L = #[.int .i64 t, .int .i64 L, .int .i64 2, .int .i64 0, .int .i64 0, .bool (decide (f ≠ 0 ∨ n ≠ 0))] := by unfold descA; rw [if_neg (by omega), if_pos rfl]
theorem descA_none {k : Int} (h1 : k ≠ 1) (h2 : k ≠ 2) (t f n : Int) (L : Nat) : descA k t f n L = #[.int .i64 0, .int .i64 0, .int .i64 0, .int .i64 0, .int .i64 0, .bool false] := by unfold descA; rw [if_neg h1, if_neg h2]

/-- New blocks, named. -/
theorem start1 (w : World) (o1 : Obj) : ∃ S : HeldW w [(w.heap.size, o1)], w.alloc o1 = S.w := ⟨(HeldW.start w).push o1, rfl⟩
theorem start2 (w : World) (o1 o2 : Obj) : ∃ S : HeldW w [(w.heap.size + 1, o2), (w.heap.size, o1)], (w.alloc o1).alloc o2 = S.w :=
  ⟨⟨(w.alloc o1).alloc o2, ((Below.refl _ w).alloc (Nat.le_refl _) _).alloc (by simp) _, all2 (heap_new _ o2 (by simp)) (heap_old (heap_new w o1 rfl) _)⟩, rfl⟩
theorem start3 (w : World) (o1 o2 o3 : Obj) : ∃ S : HeldW w [(w.heap.size + 1 + 1, o3), (w.heap.size + 1, o2), (w.heap.size, o1)], ((w.alloc o1).alloc o2).alloc o3 = S.w :=
  ⟨⟨((w.alloc o1).alloc o2).alloc o3, (((Below.refl _ w).alloc (Nat.le_refl _) _).alloc (by simp) _).alloc (by simp; omega) _, all3 (heap_new _ o3 (by simp)) (heap_old (heap_new _ o2 (by simp)) _) (heap_old (heap_old (heap_new w o1 rfl) _) _)⟩, rfl⟩
/-- One more block, named. -/
theorem HeldW.more {w0 : World} {bs : List (Nat × Obj)} (s : HeldW w0 bs) (o : Obj) : ∃ (B : Nat) (S : HeldW w0 ((B, o) :: bs)), B = s.w.heap.size ∧ w0.heap.size ≤ B ∧ s.w.alloc o = S.w := ⟨s.w.heap.size, s.push o, rfl, s.below.size, rfl⟩
theorem HeldW.more1 {w0 : World} {bs : List (Nat × Obj)} (s : HeldW w0 bs) (o : Obj) : ∃ (B : Nat) (S : HeldW w0 ((B, o) :: bs)), B = s.w.heap.size ∧ w0.heap.size ≤ B ∧ (∀ p ∈ bs, p.1 < B) ∧ s.w.alloc o = S.w :=
  ⟨s.w.heap.size, s.push o, rfl, s.below.size, fun p hp => (Array.getElem?_eq_some_iff.1 (s.blocks p hp)).1, rfl⟩
/-- Two more blocks, named. -/
theorem HeldW.more2 {w0 : World} {bs : List (Nat × Obj)} (s : HeldW w0 bs) (o1 o2 : Obj) : ∃ (B : Nat) (S : HeldW w0 ((B + 1, o2) :: (B, o1) :: bs)), B = s.w.heap.size ∧ w0.heap.size ≤ B ∧ (∀ p ∈ bs, p.1 < B) ∧ (s.w.alloc o1).alloc o2 = S.w :=
  ⟨s.w.heap.size, ⟨((s.push o1).push o2).w, ((s.push o1).push o2).below, fun p hp => by
    rcases List.mem_cons.1 hp with rfl | hp
    · exact heap_new _ o2 (by simp)
    · exact (Below.heap_alloc _ _ _ (Array.getElem?_eq_some_iff.1 ((s.push o1).blocks p hp)).1).trans ((s.push o1).blocks p hp)⟩, rfl, s.below.size, fun p hp => (Array.getElem?_eq_some_iff.1 (s.blocks p hp)).1, rfl⟩
/-- An extent is written, the world named. -/
theorem HeldW.putExt {w0 : World} {b : Nat} {x : Int × Int} {bs : List (Nat × Obj)} (s : HeldW w0 ((b, extO x) :: bs)) (hb : w0.heap.size ≤ b) (hne : ∀ p ∈ bs, p.1 ≠ b) (y : Int × Int) :
    ∃ S : HeldW w0 ((b, extO y) :: bs), (s.w.setCell ⟨b, 0, none⟩ (.int .i64 y.1)).setCell ⟨b, 1, none⟩ (.int .i64 y.2) = S.w :=
  ⟨(s.store (i := 0) (v := .int .i64 y.1) hb hne rfl).store (i := 1) (v := .int .i64 y.2) hb hne rfl, rfl⟩


/-- Two new blocks. -/
theorem below2 (w : World) (o1 o2 : Obj) : Below w.heap.size w ((w.alloc o1).alloc o2) := ((Below.refl _ w).alloc (Nat.le_refl _) _).alloc (by simp) _

set_option maxRecDepth 100000 in
set_option maxHeartbeats 4000000 in
theorem describe_copy (t f n : Int) (a : Option Addr) (L cap : Nat) (w : World) : Calls Tryz.prog 126 #[cmdV 1 t f n (.slice a L cap)] w (Gives (.agg (descA 1 t f n L)) w) := by
  rw [descA_copy]
  go_enter Tryz.func126, Tryz.ntmps126
  go_wp2
  refine bodyPost_ret (v := .agg #[.int .i64 t, .int .i64 n, .int .i64 1, .int .i64 f, .int .i64 n, .bool (decide (0 < L))]) (by simp [results, Tryz.results126, go_sem]) rfl ⟨rfl, below2 _ _ _⟩
set_option maxRecDepth 100000 in
set_option maxHeartbeats 4000000 in
theorem describe_lit (t f n : Int) (a : Option Addr) (L cap : Nat) (w : World) : Calls Tryz.prog 126 #[cmdV 2 t f n (.slice a L cap)] w (Gives (.agg (descA 2 t f n L)) w) := by
  rw [descA_lit]
  by_cases hf : f = 0
  · subst hf
    have hd : (0 != (0 : Int)) = false := rfl
    by_cases hn : n = 0
    · subst hn
      go_enter Tryz.func126, Tryz.ntmps126
      go_wp2
      refine bodyPost_ret (v := .agg #[.int .i64 t, .int .i64 L, .int .i64 2, .int .i64 0, .int .i64 0, .bool false]) (by simp [results, Tryz.results126, go_sem]) rfl ⟨rfl, below2 _ _ _⟩
    · have h1 : (n != 0) = true := by simpa using hn
      have h2 : decide ((0 : Int) ≠ 0 ∨ n ≠ 0) = true := by simpa using hn
      rw [h2]
      clear h2
      go_enter Tryz.func126, Tryz.ntmps126
      go_wp2
      refine bodyPost_ret (v := .agg #[.int .i64 t, .int .i64 L, .int .i64 2, .int .i64 0, .int .i64 0, .bool true]) (by simp [results, Tryz.results126, go_sem]) rfl ⟨rfl, below2 _ _ _⟩
  · have h1 : (f != 0) = true := by simpa using hf
    have h2 : decide (f ≠ 0 ∨ n ≠ 0) = true := by simp [hf]
    rw [h2]
    clear h2
    go_enter Tryz.func126, Tryz.ntmps126
    go_wp2
    refine bodyPost_ret (v := .agg #[.int .i64 t, .int .i64 L, .int .i64 2, .int .i64 0, .int .i64 0, .bool true]) (by simp [results, Tryz.results126, go_sem]) rfl ⟨rfl, below2 _ _ _⟩
set_option maxRecDepth 100000 in
set_option maxHeartbeats 4000000 in
theorem describe_none (k t f n : Int) (h1 : k ≠ 1) (h2 : k ≠ 2) (a : Option Addr) (L cap : Nat) (w : World) : Calls Tryz.prog 126 #[cmdV k t f n (.slice a L cap)] w (Gives (.agg (descA k t f n L)) w) := by
  rw [descA_none h1 h2]
  have e1 : (k == 1) = false := by simpa using h1
  have e2 : (k == 2) = false := by simpa using h2
  clear h1 h2
  go_enter Tryz.func126, Tryz.ntmps126
  go_wp2
  refine bodyPost_ret (v := .agg #[.int .i64 0, .int .i64 0, .int .i64 0, .int .i64 0, .int .i64 0, .bool false]) (by simp [results, Tryz.results126, go_sem]) rfl ⟨rfl, below2 _ _ _⟩
theorem describe_any (k t f n : Int) (a : Option Addr) (L cap : Nat) (w : World) : Calls Tryz.prog 126 #[cmdV k t f n (.slice a L cap)] w (Gives (.agg (descA k t f n L)) w) := by
  by_cases h1 : k = 1
  · subst h1; exact describe_copy t f n a L cap w
  · by_cases h2 : k = 2
    · subst h2; exact describe_lit t f n a L cap w
    · exact describe_none k t f n h1 h2 a L cap w
end Go.Proofs.YtdedfjkenbaebaaGreatDoor
