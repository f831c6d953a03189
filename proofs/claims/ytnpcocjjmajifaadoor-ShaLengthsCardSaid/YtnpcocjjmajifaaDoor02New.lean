/- take, New, Len and Clone of package sha. -/
import Derived.Test.YtnpcocjjmajifaaDoor02Take
namespace Go.Proofs.YtnpcocjjmajifaaDoor
open Go.RowKit
set_option linter.unusedVariables false

theorem take_any (h : Nat) (m l : List Int) (o : Obj) (a : Option Addr) (cap : Nat) (w : World) (hinv : Inv m o) (ho : w.heap[h]? = some o) (hh : h ≠ 0) (hR : Roots w) (hsrc : Src w h a l)
    (hcap : l.length ≤ cap) (hcap2 : cap ≤ 9223372036854775807) (hm : m.length + l.length < 2305843009213693952) :
    Calls Tryd.prog 25 #[.pointer (some ⟨h, 0, none⟩), .slice a l.length cap] w (Takes h (m ++ l) (.tuple #[]) w) := by
  obtain ⟨r, hr, hrm, rfl⟩ := hinv
  by_cases hu : m.length % 64 = 0
  · exact take_A h m l r _ a cap (m.length / 64) w (by omega) rfl hr ho hh hR hsrc hcap hcap2 hm
  · by_cases hf : m.length % 64 + l.length < 64
    · exact take_B h m l r _ a cap (m.length % 64) w rfl (by omega) hf rfl hr hrm ho hsrc hcap hcap2 hm
    · obtain ⟨b, o, rfl, hb, hc⟩ := hsrc (by omega)
      exact take_C h m l r _ b o cap (m.length % 64) (m.length / 64) w (by omega) (by omega) (by omega) (by omega) rfl hr (fun i hi => by rw [hrm i hi, Nat.mul_comm]) ho hh hR hb hc hcap hcap2 hm

/-- A callee that takes bytes into block g. -/
theorem HeldX.takes {P : Program} {f : FuncId} {args : Array Value} {v : Value} {w0 : World} {h g : Nat} {m : List Int} {o : Obj} {bs : List (Nat × Obj)} {s : HeldX w0 h ((g, o) :: bs)} (hc : Calls P f args s.w (Takes g m v s.w))
    (hg : g = h ∨ w0.heap.size ≤ g) (hne : ∀ p ∈ bs, p.1 ≠ g) :
    Calls P f args s.w fun e w'' => e = .returned v ∧ ∃ o', Hid (Inv m o') ∧ ∃ s' : HeldX w0 h ((g, o') :: bs), w'' = s'.w :=
  hc.mono fun _ w'' ⟨he, hb, o', ho, hi⟩ => ⟨he, o', hi, ⟨w'', s.but.trans ⟨hb.os, hb.tape, hb.output, hb.size, fun k hk hn => hb.block k (Nat.lt_of_lt_of_le hk s.but.size) (by rcases hg with rfl | hg <;> omega)⟩,
    List.forall_mem_cons.2 ⟨ho, fun p hp => (hb.block _ (Array.getElem?_eq_some_iff.1 (s.blocks p (List.mem_cons_of_mem _ hp))).1 (hne p hp)).trans (s.blocks p (List.mem_cons_of_mem _ hp))⟩⟩, rfl⟩
theorem HeldW.takes {P : Program} {f : FuncId} {args : Array Value} {v : Value} {w0 : World} {g : Nat} {m : List Int} {o : Obj} {bs : List (Nat × Obj)} {s : HeldW w0 ((g, o) :: bs)} (hc : Calls P f args s.w (Takes g m v s.w))
    (hg : w0.heap.size ≤ g) (hne : ∀ p ∈ bs, p.1 ≠ g) :
    Calls P f args s.w fun e w'' => e = .returned v ∧ ∃ o', Hid (Inv m o') ∧ ∃ s' : HeldW w0 ((g, o') :: bs), w'' = s'.w :=
  hc.mono fun _ w'' ⟨he, hb, o', ho, hi⟩ => ⟨he, o', hi, ⟨w'', s.below.trans ⟨hb.os, hb.tape, hb.output, hb.size, fun k hk => hb.block k (Nat.lt_of_lt_of_le hk s.below.size) (by omega)⟩,
    List.forall_mem_cons.2 ⟨ho, fun p hp => (hb.block _ (Array.getElem?_eq_some_iff.1 (s.blocks p (List.mem_cons_of_mem _ hp))).1 (hne p hp)).trans (s.blocks p (List.mem_cons_of_mem _ hp))⟩⟩, rfl⟩

/-- It returns a new hash that has taken m. -/
def Makes (m : List Int) (w : World) (e : Ending) (w' : World) : Prop := ∃ g o, e = .returned (.pointer (some ⟨g, 0, none⟩)) ∧ w.heap.size ≤ g ∧ Below w.heap.size w w' ∧ w'.heap[g]? = some o ∧ Inv m o
theorem HeldW.makes {P : Program} {f : FuncId} {args : Array Value} {w0 : World} {m : List Int} {bs : List (Nat × Obj)} {s : HeldW w0 bs} (hc : Calls P f args s.w (Makes m s.w)) :
    Calls P f args s.w fun e w'' => ∃ g o, e = .returned (.pointer (some ⟨g, 0, none⟩)) ∧ w0.heap.size ≤ g ∧ Hid (∀ p ∈ bs, p.1 ≠ g) ∧ Hid (Inv m o) ∧ ∃ s' : HeldW w0 ((g, o) :: bs), w'' = s'.w :=
  hc.mono fun _ w'' ⟨g, o, he, hg, hb, ho, hi⟩ => ⟨g, o, he, Nat.le_trans s.below.size hg, fun p hp e => by have := (Array.getElem?_eq_some_iff.1 (s.blocks p hp)).1; omega, hi,
    ⟨w'', s.below.trans (hb.mono s.below.size), List.forall_mem_cons.2 ⟨ho, fun p hp => (hb.block _ (Array.getElem?_eq_some_iff.1 (s.blocks p hp)).1).trans (s.blocks p hp)⟩⟩, rfl⟩

theorem len_any (h : Nat) (m : List Int) (o : Obj) (hinv : Inv m o) (w : World) (ho : w.heap[h]? = some o) : Calls Tryd.prog 15 #[.pointer (some ⟨h, 0, none⟩)] w fun e w' => e = .returned (.int .i64 m.length) ∧ w' = w := by
  obtain ⟨r, hr, hrm, rfl⟩ := hinv
  have c72 : w.cell? ⟨h, 72, none⟩ = some (.int .i64 m.length) := by rw [cell_of ho, hash_len _ r _ hr]
  clear ho hrm hr
  go_enter Tryd.func15, Tryd.ntmps15
  go_wp2
  go_ret
  exact ⟨rfl, rfl⟩

set_option maxRecDepth 100000 in
theorem initial_any (w : World) : Calls Tryd.prog 24 #[] w (Gives (.agg #[.int .u32 1779033703, .int .u32 3144134277, .int .u32 1013904242, .int .u32 2773480762, .int .u32 1359893119, .int .u32 2600822924, .int .u32 528734635, .int .u32 1541459225]) w) := by
  go_enter Tryd.func24, Tryd.ntmps24
  go_wp2
  refine bodyPost_ret (v := .agg #[.int .u32 1779033703, .int .u32 3144134277, .int .u32 1013904242, .int .u32 2773480762, .int .u32 1359893119, .int .u32 2600822924, .int .u32 528734635, .int .u32 1541459225]) (by simp [results, Tryd.results24, go_sem]) rfl ⟨rfl, ?_⟩
  exact (Below.refl _ w).alloc (Nat.le_refl _) _

/-- A new hash. -/
theorem inv_new : Inv [] (hashO initV (List.replicate 64 0) 0) := ⟨_, by simp, fun i hi => by simp at hi, rfl⟩

set_option maxRecDepth 100000 in
theorem new_any (w : World) : Calls Tryd.prog 12 #[] w (Makes [] w) := by
  have hi := initial_any w
  go_enter Tryd.func12, Tryd.ntmps12
  go_wp2_with fail
  refine (HeldW.call (s := HeldW.start w) hi).mono ?_
  rintro e _ ⟨rfl, s, rfl⟩
  clear hi
  go_wp2_with (refine wpList_buildTo rfl 54 _ rfl (some 2) rfl (hashA initV (List.replicate 64 0) 0) (by kernel_rfl) ?_)
  go_ret
  exact ⟨_, _, rfl, s.below.size, s.below.alloc s.below.size _, heap_new s.w (hashO initV (List.replicate 64 0) 0) rfl, inv_new⟩

theorem hash_size (v : V8) (r : List Int) (n : Int) (h : r.length = 64) : (hashA v r n).size = 73 := by rw [← hashL_eq, List.size_toArray, hashL_length v r n h]
theorem hash_one (v : V8) (r : List Int) (n : Int) : (hashA v r n).all (·.oneCell') = true := by
  rw [Array.all_eq_true_iff_forall_mem]
  intro x hx
  rw [← hashL_eq, List.mem_toArray, hashL] at hx
  simp only [List.mem_cons, List.mem_append, List.mem_map, List.not_mem_nil, or_false] at hx
  rcases hx with rfl | rfl | rfl | rfl | rfl | rfl | rfl | rfl | ⟨_, _, rfl⟩ | rfl <;> rfl
/-- An empty block of a hash. -/
abbrev zeroV : V8 := ⟨0, 0, 0, 0, 0, 0, 0, 0⟩
def zeroA : Array Value := hashA zeroV (List.replicate 64 0) 0
theorem zero_hash (w : World) : (zeroValue 54).run Tryd.prog w = .ok (.agg zeroA) w := by kernel_rfl

set_option maxRecDepth 100000 in
set_option maxHeartbeats 1000000 in
theorem clone_any (h : Nat) (m : List Int) (o : Obj) (hinv : Inv m o) (w : World) (ho : w.heap[h]? = some o) : Calls Tryd.prog 16 #[.pointer (some ⟨h, 0, none⟩)] w (Makes m w) := by
  obtain ⟨r, hr, hrm, rfl⟩ := hinv
  have HI := Lib.hid (show Inv m (hashO (stF (byteAt m) (m.length / 64)) r m.length) from ⟨r, hr, hrm, rfl⟩)
  have hsz := hash_size (stF (byteAt m) (m.length / 64)) r m.length hr
  have hone := hash_one (stF (byteAt m) (m.length / 64)) r m.length
  have hinf : (Tryd.prog.info? 54).map (·.size) = some (hashA (stF (byteAt m) (m.length / 64)) r m.length).size := by rw [hsz]; kernel_rfl
  have hzs : zeroA.size = (hashA (stF (byteAt m) (m.length / 64)) r m.length).size := by rw [hsz]; rfl
  clear hrm hr hsz
  dsimp only [hashO] at ho HI
  generalize hashA (stF (byteAt m) (m.length / 64)) r m.length = A at *
  have hn := heap_new w (.cells zeroA 54 (0, 0)) rfl
  have hz := zero_hash
  go_enter Tryd.func16, Tryd.ntmps16
  go_wp2_with (first
    | (refine wpList_load_row rfl 54 (.tmp 7) rfl h rfl 54 _ (0, 0) _ ho Tryd.underlying54 rfl hinf ?_)
    | (refine wpList_store_rowTo rfl 54 (.tmp 3) (.tmp 8) rfl rfl w.heap.size A rfl rfl 54 zeroA hn hinf hzs hone ?_))
  rw [World.setRow_alloc_new]
  go_wp2
  go_ret
  exact ⟨_, _, rfl, Nat.le_refl _, (Below.refl _ w).alloc (Nat.le_refl _) _, heap_new w _ rfl, HI.out⟩
end Go.Proofs.YtnpcocjjmajifaaDoor
