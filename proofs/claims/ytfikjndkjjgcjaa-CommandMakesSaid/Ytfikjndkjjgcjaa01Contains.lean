/- Contains of package extent, at a slice of extents that came in or was made. -/
import Derived.Test.Ytfikjndkjjgcjaa01Calls
namespace Go.Proofs.Ytfikjndkjjgcjaa
open Go.RowKit Go.Shelf Go.Proofs.Ytfikjndkjjgcjaa.Plain01

/-- The first n of f lie within e. -/
def insE (e x : Int × Int) : Prop := e.1 ≤ x.1 ∧ x.1 + x.2 ≤ e.1 + e.2
instance (e x : Int × Int) : Decidable (insE e x) := by unfold insE; exact inferInstance
def insB (e : Int × Int) (n : Nat) (f : Nat → Int × Int) : Bool := decide (∀ i, i < n → insE e (f i))

theorem insB_no {e : Int × Int} {n k : Nat} {f : Nat → Int × Int} (hk : k < n) (h : ¬ insE e (f k)) : insB e n f = false := by
  unfold insB; simp only [decide_eq_false_iff_not]; intro h'; exact h (h' k hk)
theorem insB_yes {e : Int × Int} {n : Nat} {f : Nat → Int × Int} (h : ∀ i, i < n → insE e (f i)) : insB e n f = true := by
  unfold insB; simp only [decide_eq_true_eq]; exact h

theorem ins_succ {e : Int × Int} {k : Nat} {f : Nat → Int × Int} (h : ∀ j, j < k → insE e (f j)) (hk : insE e (f k)) : ∀ j, j < k + 1 → insE e (f j) := fun j hj => by
  by_cases hjk : j < k
  · exact h j hjk
  · obtain rfl : j = k := by omega
    exact hk

theorem all_succ {p : Nat → Bool} {k : Nat} (h : ∀ j, j < k → p j = true) (hk : p k = true) : ∀ j, j < k + 1 → p j = true := fun j hj => by
  by_cases hjk : j < k
  · exact h j hjk
  · obtain rfl : j = k := by omega
    exact hk

/-- A slice of n extents. -/
def ExtSlice (w : World) (a : Option Addr) (n : Nat) (f : Nat → Int × Int) : Prop := 0 < n → ∃ b o, a = some ⟨b, o, none⟩ ∧ ExtRow w b o n f

theorem ExtRow.lt {w : World} {b o n : Nat} {f : Nat → Int × Int} (h : ExtRow w b o n f) (hn : 0 < n) : b < w.heap.size := World.block_lt_of_cell? w _ (h 0 hn).1

theorem ExtSlice.below {w w' : World} {a : Option Addr} {n : Nat} {f : Nat → Int × Int} (h : ExtSlice w a n f) (hb : Below w.heap.size w w') : ExtSlice w' a n f := fun hn => by
  obtain ⟨b, o, ha, hr⟩ := h hn
  exact ⟨b, o, ha, hr.below hb (hr.lt hn)⟩

set_option maxRecDepth 100000 in
set_option maxHeartbeats 4000000 in
theorem contains_gives (e : Int × Int) (a : Option Addr) (n cap : Nat) (f : Nat → Int × Int) (he : okE e = true) (hn : n ≤ 9223372036854775807) (w : World) (hs : ExtSlice w a n f) (hf : ∀ i, i < n → okE (f i) = true) :
    Calls Try.prog 41 #[extV e, .slice a n cap] w (Gives (.bool (insB e n f)) w) := by
  obtain ⟨a0, a1, a2⟩ := okE_iff.1 he
  clear he
  go_enter Try.func41, Try.ntmps41
  go_wp2
  go_loopw [9] (fun i wr => ∃ k : Nat, k ≤ n ∧ i = .int .i64 k ∧ (∀ j, j < k → insE e (f j)) ∧ wr.heap[w.heap.size]? = some (extO e) ∧ Below w.heap.size w wr) (fun i _ => n - (intOf i).toNat)
  case atStart => exact ⟨0, Nat.zero_le _, rfl, fun j hj => by omega, heap_new w _ rfl, (Below.refl _ w).alloc (Nat.le_refl _) _⟩
  case round =>
    obtain ⟨k, hk, rfl, hin, hE, hB⟩ := hrel
    by_cases hlt : k < n
    · obtain ⟨b, o, rfl, hr⟩ := hs (by omega)
      have hb := hr.lt (by omega)
      obtain ⟨x0, x1⟩ := hr.below hB hb k hlt
      obtain ⟨f0, f1, f2⟩ := okE_iff.1 (hf k hlt)
      have hblt := (Array.getElem?_eq_some_iff.1 hE).1
      have hBn : Below w.heap.size w (wr.alloc (extO (f k))) := hB.alloc hB.size _
      have g1 : (wr.alloc (extO (f k))).heap[w.heap.size]? = some (extO e) := heap_old hE _
      have g2 : (wr.alloc (extO (f k))).heap[wr.heap.size]? = some (extO (f k)) := heap_new wr _ rfl
      by_cases hc : insE e (f k)
      · have hc' := hc
        unfold insE at hc'
        obtain ⟨hc1, hc2⟩ := hc'
        have hd : decide ((f k).1 < e.1) = false := by simp; omega
        have HC := Lib.hid hc
        have HI := Lib.hid hin
        clear hc hin hs hf hE
        go_wp2
        refine wp_region_class w [(w.heap.size, extO e), (wr.heap.size, extO (f k))] (by kernel_rfl) (by kernel_rfl) hBn (all2 g1 g2) (fun hne => ?_)
        obtain ⟨d0, d1⟩ := held_ext w (bs := [(w.heap.size, extO e), (wr.heap.size, extO (f k))]) w.heap.size e (by simp)
        obtain ⟨e0, e1⟩ := held_ext w (bs := [(w.heap.size, extO e), (wr.heap.size, extO (f k))]) wr.heap.size (f k) (by simp)
        clear g1 g2 hBn hB
        repeat (go_big_quiet_step ((go_at_call 39; exact HeldW.call (end_gives2 _ _ (by omega) (by omega) (by omega) _))))
        refine wpQuiet_nil ?_
        rintro w' ⟨s, rfl⟩
        clear hne d0 d1 e0 e1
        go_wp2
        go_roundw
        case rel => exact ⟨k + 1, by omega, by go_num, ins_succ HI.out HC.out, s.blocks (_, extO e) (by simp), s.below⟩
        case measure => simp [intOf]; omega
      · have hno := insB_no hlt hc
        have HN := Lib.hid hno
        unfold insE at hc
        clear hno hin hs hf hE
        by_cases c1 : (f k).1 < e.1
        · clear hc
          go_wp2
          refine wp_region_class w [(w.heap.size, extO e), (wr.heap.size, extO (f k))] (by kernel_rfl) (by kernel_rfl) hBn (all2 g1 g2) (fun hne => ?_)
          obtain ⟨d0, d1⟩ := held_ext w (bs := [(w.heap.size, extO e), (wr.heap.size, extO (f k))]) w.heap.size e (by simp)
          obtain ⟨e0, e1⟩ := held_ext w (bs := [(w.heap.size, extO e), (wr.heap.size, extO (f k))]) wr.heap.size (f k) (by simp)
          clear g1 g2 hBn hB
          repeat (go_big_quiet_step (fail))
          refine wpQuiet_nil ?_
          rintro w' ⟨s, rfl⟩
          clear hne d0 d1 e0 e1
          go_wp2
          go_ret
          exact ⟨by rw [HN.out]; rfl, s.below⟩
        · have c2 : e.1 + e.2 < (f k).1 + (f k).2 := by omega
          have hd : decide ((f k).1 < e.1) = false := by simp; omega
          clear hc
          go_wp2
          refine wp_region_class w [(w.heap.size, extO e), (wr.heap.size, extO (f k))] (by kernel_rfl) (by kernel_rfl) hBn (all2 g1 g2) (fun hne => ?_)
          obtain ⟨d0, d1⟩ := held_ext w (bs := [(w.heap.size, extO e), (wr.heap.size, extO (f k))]) w.heap.size e (by simp)
          obtain ⟨e0, e1⟩ := held_ext w (bs := [(w.heap.size, extO e), (wr.heap.size, extO (f k))]) wr.heap.size (f k) (by simp)
          clear g1 g2 hBn hB
          repeat (go_big_quiet_step ((go_at_call 39; exact HeldW.call (end_gives2 _ _ (by omega) (by omega) (by omega) _))))
          refine wpQuiet_nil ?_
          rintro w' ⟨s, rfl⟩
          clear hne d0 d1 e0 e1
          go_wp2
          go_ret
          exact ⟨by rw [HN.out]; rfl, s.below⟩
    · obtain rfl : k = n := by omega
      have hbb := Lib.hid hB
      clear hs hf hE hB
      go_wp2
      go_ret
      exact ⟨by rw [insB_yes hin]; rfl, hbb.out⟩

/-- Contains, at one extent in a block of its own. -/
theorem contains1_gives (e x : Int × Int) (he : okE e = true) (hx : okE x = true) (hin : insE e x) (b : Nat) (w : World) (hW : w.heap[b]? = some (extO x)) :
    Calls Try.prog 41 #[extV e, .slice (some ⟨b, 0, none⟩) 1 1] w (Gives (.bool true) w) := by
  have h := contains_gives e (some ⟨b, 0, none⟩) 1 1 (fun _ => x) he (by omega) w (fun _ => ⟨b, 0, rfl, fun i hi => by obtain rfl : i = 0 := (by omega); exact ⟨(ext_cells hW).1, (ext_cells hW).2.1⟩⟩) (fun _ _ => hx)
  rwa [insB_yes (fun _ _ => hin)] at h

theorem contains1_bool (e x : Int × Int) (he : okE e = true) (hx : okE x = true) (b : Nat) (w : World) (hW : w.heap[b]? = some (extO x)) :
    Calls Try.prog 41 #[extV e, .slice (some ⟨b, 0, none⟩) 1 1] w (Gives (.bool (decide (insE e x))) w) := by
  have h := contains_gives e (some ⟨b, 0, none⟩) 1 1 (fun _ => x) he (by omega) w (fun _ => ⟨b, 0, rfl, fun i hi => by obtain rfl : i = 0 := (by omega); exact ⟨(ext_cells hW).1, (ext_cells hW).2.1⟩⟩) (fun _ _ => hx)
  by_cases hin : insE e x
  · rw [insB_yes (fun _ _ => hin)] at h
    rwa [decide_eq_true hin]
  · rw [insB_no (k := 0) (by omega) hin] at h
    rwa [decide_eq_false hin]
theorem insB_succ (e : Int × Int) (k : Nat) (f : Nat → Int × Int) : insB e (k + 1) f = (insB e k f && decide (insE e (f k))) := by
  by_cases hin : insE e (f k)
  · by_cases h : ∀ i, i < k → insE e (f i)
    · rw [insB_yes h, insB_yes (ins_succ h hin), decide_eq_true hin]; rfl
    · have : insB e k f = false := by unfold insB; simp only [decide_eq_false_iff_not]; exact h
      rw [this, Bool.false_and]
      unfold insB; simp only [decide_eq_false_iff_not]; exact fun h' => h fun i hi => h' i (by omega)
  · rw [insB_no (k := k) (by omega) hin, decide_eq_false hin, Bool.and_false]

/-- Contains, at two extents in one block. -/
theorem contains2_gives (e x y : Int × Int) (he : okE e = true) (hx : okE x = true) (hy : okE y = true) (hix : insE e x) (hiy : insE e y) (b : Nat) (w : World) (hW : w.heap[b]? = some (.cells #[.int .i64 x.1, .int .i64 x.2, .int .i64 y.1, .int .i64 y.2] 37 (0, 0))) :
    Calls Try.prog 41 #[extV e, .slice (some ⟨b, 0, none⟩) 2 2] w (Gives (.bool true) w) := by
  have h := contains_gives e (some ⟨b, 0, none⟩) 2 2 (fun i => if i = 0 then x else y) he (by omega) w (fun _ => ⟨b, 0, rfl, fun i hi => by
    rw [cell_of hW, cell_of hW]
    match i, hi with
    | 0, _ => exact ⟨rfl, rfl⟩
    | 1, _ => exact ⟨rfl, rfl⟩⟩) (fun i _ => by (split; exact hx; exact hy))
  rwa [insB_yes (fun i _ => by (split; exact hix; exact hiy))] at h
end Go.Proofs.Ytfikjndkjjgcjaa
