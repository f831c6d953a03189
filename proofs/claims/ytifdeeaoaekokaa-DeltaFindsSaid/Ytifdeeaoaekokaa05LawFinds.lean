/- DeltaFinds returns true for every delta and offset, and changes nothing that was there. -/
import Derived.Test.Ytifdeeaoaekokaa05Alive
import Derived.Test.Ytifdeeaoaekokaa05RCheck
import Derived.Test.Ytifdeeaoaekokaa05Find
namespace Go.Proofs.Ytifdeeaoaekokaa
open Go.RowKit Go.Shelf Go.Proofs.Ytifdeeaoaekokaa.Plain01
set_option linter.unusedVariables false
set_option linter.unusedSimpArgs false

theorem find_range {o n : Int} {cs : List Cmd} (h : ValidD o n cs) (off : Int) : 0 ≤ findOf cs off ↔ (0 ≤ off ∧ off < n) := by
  rw [h.some off]
  constructor
  · intro h0
    apply Classical.byContradiction
    intro hn
    have : findOf cs off < 0 := findOf_neg.2 fun c hc hx => by
      obtain ⟨i, hi⟩ := List.getElem?_of_mem hc
      exact hn ⟨i, c, hi, hx⟩
    omega
  · rintro ⟨i, c, hi, hx⟩
    apply Classical.byContradiction
    intro hn
    exact findOf_neg.1 (by omega : findOf cs off < 0) c (List.mem_of_getElem? hi) hx
theorem valid_okE {o n : Int} {cs : List Cmd} (h : ValidD o n cs) : ∀ c ∈ cs, okE c.tgt = true ∧ (c.k = 1 ∨ c.k = 2) := fun c hc => by
  refine ⟨(single_facts (h.all c hc) h.lens).1, ?_⟩
  rcases chk_ok (single_ok (h.all c hc)).1 with ⟨hk, _⟩ | ⟨hk, _⟩
  · exact Or.inl hk
  · exact Or.inr hk

set_option maxRecDepth 100000 in
set_option maxHeartbeats 4000000 in
theorem deltaFinds_big (D : Array Value) (o n : Int) (xx y : List Int) (ca : Option Addr) (cs : List Cmd) (ccap : Nat) (hD : DeltaOf D o n xx y (.slice ca cs.length ccap)) (ho : I64 o) (hn : I64 n) (off : Int) (hoff : I64 off) (w : World) (h : CmdsIn w ca cs ccap) (hf : ¬ FewD cs) :
    Calls Try.prog 4 #[.agg D, .int .i64 off] w (Gives (.bool true) w) := by
  obtain ⟨S, hS⟩ := start1 w (deltaO D)
  have hF := few_any D o n xx y ca cs ccap hD S.w (h.W S)
  rw [decide_eq_false hf] at hF
  have hinf := infoDelta hD
  have hg : (w.alloc (deltaO D)).heap[w.heap.size]? = some (deltaO D) := heap_new w _ rfl
  have HS := Lib.hid hS
  clear hS hD h hf
  go_enter Try.func4, Try.ntmps4
  go_wp2_with (refine wpList_load_row rfl 25 (.tmp 2) rfl w.heap.size rfl 25 _ (0, 0) _ hg Try.underlying25 rfl hinf ?_)
  rw [HS.out]
  clear hg
  refine (HeldW.call hF).mono ?_
  rintro e _ ⟨rfl, s2, rfl⟩
  go_wp2_with fail
  refine (HeldW.call (alive05_gives _)).mono ?_
  rintro e _ ⟨rfl, s3, rfl⟩
  go_wp2
  go_ret
  exact ⟨rfl, s3.below⟩

set_option maxRecDepth 100000 in
set_option maxHeartbeats 4000000 in
theorem deltaFinds_bad (D : Array Value) (o n : Int) (xx y : List Int) (ca : Option Addr) (cs : List Cmd) (ccap : Nat) (hD : DeltaOf D o n xx y (.slice ca cs.length ccap)) (ho : I64 o) (hn : I64 n) (off : Int) (hoff : I64 off) (w : World) (h : CmdsIn w ca cs ccap) (hf : FewD cs) (hv : ¬ ValidD o n cs) :
    Calls Try.prog 4 #[.agg D, .int .i64 off] w (Gives (.bool true) w) := by
  obtain ⟨S, hS⟩ := start1 w (deltaO D)
  have hF := few_any D o n xx y ca cs ccap hD S.w (h.W S)
  rw [decide_eq_true hf] at hF
  have HV := Lib.hid (fun s : HeldW w [(w.heap.size, deltaO D)] => rdvalid_any D o n xx y ca cs ccap hD s.w (h.W s))
  have hinf := infoDelta hD
  have hg : (w.alloc (deltaO D)).heap[w.heap.size]? = some (deltaO D) := heap_new w _ rfl
  have HGD := Lib.hid (fun s : HeldW w [(w.heap.size, deltaO D)] => s.blocks (w.heap.size, deltaO D) (by simp))
  have HS := Lib.hid hS
  rw [show decide ((faultOf o n cs).1 = 0) = false from decide_eq_false (fun e => hv (faultOf_zero.1 e))] at HV
  clear hS hD h hf hv
  go_enter Try.func4, Try.ntmps4
  go_wp2_with (refine wpList_load_row rfl 25 (.tmp 2) rfl w.heap.size rfl 25 _ (0, 0) _ hg Try.underlying25 rfl hinf ?_)
  rw [HS.out]
  clear hg
  refine (HeldW.call hF).mono ?_
  rintro e _ ⟨rfl, s2, rfl⟩
  clear hF
  have hg := HGD.out s2
  go_wp2_with (refine wpList_load_rowG rfl 25 (.tmp 2) rfl (some 10) rfl w.heap.size rfl 25 _ (0, 0) _ hg Try.underlying25 rfl hinf ?_)
  clear hg
  refine (HeldW.call (HV.out s2)).mono ?_
  rintro e _ ⟨rfl, s3, rfl⟩
  go_wp2_with fail
  refine (HeldW.call (alive05_gives _)).mono ?_
  rintro e _ ⟨rfl, s4, rfl⟩
  go_wp2
  go_ret
  exact ⟨rfl, s4.below⟩

set_option maxRecDepth 100000 in
set_option maxHeartbeats 4000000 in
theorem deltaFinds_in (D : Array Value) (o n : Int) (xx y : List Int) (ca : Option Addr) (cs : List Cmd) (ccap : Nat) (hD : DeltaOf D o n xx y (.slice ca cs.length ccap)) (ho : I64 o) (hn : I64 n) (off : Int) (hoff : I64 off) (w : World) (h : CmdsIn w ca cs ccap) (hf : FewD cs) (hv : ValidD o n cs) (h0 : 0 ≤ off) (h1 : off < n) :
    Calls Try.prog 4 #[.agg D, .int .i64 off] w (Gives (.bool true) w) := by
  have HT := Lib.hid (fun s : HeldW w [(w.heap.size, deltaO D)] => dfind_any D o n xx y ca cs ccap hD off s.w (h.W s) (valid_okE hv))
  have HR := Lib.hid (fun s : HeldW w [(w.heap.size, deltaO D)] => rfind_any D o n xx y ca cs ccap hD off s.w (h.W s) (fun c hc => (valid_okE hv c hc).1))
  have HD := Lib.hid hD
  have hr := find_range hv off
  obtain ⟨S, hS⟩ := start1 w (deltaO D)
  have hF := few_any D o n xx y ca cs ccap hD S.w (h.W S)
  rw [decide_eq_true hf] at hF
  have HV := Lib.hid (fun s : HeldW w [(w.heap.size, deltaO D)] => rdvalid_any D o n xx y ca cs ccap hD s.w (h.W s))
  have hinf := infoDelta hD
  have hg : (w.alloc (deltaO D)).heap[w.heap.size]? = some (deltaO D) := heap_new w _ rfl
  have HGD := Lib.hid (fun s : HeldW w [(w.heap.size, deltaO D)] => s.blocks (w.heap.size, deltaO D) (by simp))
  have HS := Lib.hid hS
  rw [show decide ((faultOf o n cs).1 = 0) = true from decide_eq_true (faultOf_zero.2 hv)] at HV
  generalize findOf cs off = r at *
  have e0 : decide (0 ≤ off) = true := by simp; omega
  have e1 : decide (off < n) = true := by simp; omega
  have e2 : decide (0 ≤ r) = true := by simp; omega
  clear h0 h1
  clear hr hS hD h hf hv
  go_enter Try.func4, Try.ntmps4
  go_wp2_with (refine wpList_load_row rfl 25 (.tmp 2) rfl w.heap.size rfl 25 _ (0, 0) _ hg Try.underlying25 rfl hinf ?_)
  rw [HS.out]
  clear hg
  refine (HeldW.call hF).mono ?_
  rintro e _ ⟨rfl, s2, rfl⟩
  clear hF
  have hg := HGD.out s2
  go_wp2_with (refine wpList_load_rowG rfl 25 (.tmp 2) rfl (some 10) rfl w.heap.size rfl 25 _ (0, 0) _ hg Try.underlying25 rfl hinf ?_)
  clear hg
  refine (HeldW.call (HV.out s2)).mono ?_
  rintro e _ ⟨rfl, s3, rfl⟩
  have hg := HGD.out s3
  go_wp2_with (refine wpList_load_row rfl 25 (.tmp 2) rfl w.heap.size rfl 25 _ (0, 0) _ hg Try.underlying25 rfl hinf ?_)
  clear hg
  refine (HeldW.call (HT.out s3)).mono ?_
  rintro e _ ⟨rfl, s4, rfl⟩
  go_wp2_with fail
  refine (HeldW.call (s := s4) (alive05_gives _)).mono ?_
  rintro e _ ⟨rfl, s5, rfl⟩
  have hg := HGD.out s5
  go_wp2_with (refine wpList_load_rowG rfl 25 (.tmp 2) rfl (some 21) rfl w.heap.size rfl 25 _ (0, 0) _ hg Try.underlying25 rfl hinf ?_)
  clear hg
  refine (HeldW.call (HR.out s5)).mono ?_
  rintro e _ ⟨rfl, s6, rfl⟩
  obtain ⟨d0, d1, d2⟩ := delta_in s6 w.heap.size D o n xx y _ HD.out (by simp)
  clear d0 d2
  go_wp2
  go_ret
  exact ⟨by simp, s6.below⟩

set_option maxRecDepth 100000 in
set_option maxHeartbeats 4000000 in
theorem deltaFinds_right (D : Array Value) (o n : Int) (xx y : List Int) (ca : Option Addr) (cs : List Cmd) (ccap : Nat) (hD : DeltaOf D o n xx y (.slice ca cs.length ccap)) (ho : I64 o) (hn : I64 n) (off : Int) (hoff : I64 off) (w : World) (h : CmdsIn w ca cs ccap) (hf : FewD cs) (hv : ValidD o n cs) (h0 : 0 ≤ off) (h1 : n ≤ off) :
    Calls Try.prog 4 #[.agg D, .int .i64 off] w (Gives (.bool true) w) := by
  have HT := Lib.hid (fun s : HeldW w [(w.heap.size, deltaO D)] => dfind_any D o n xx y ca cs ccap hD off s.w (h.W s) (valid_okE hv))
  have HR := Lib.hid (fun s : HeldW w [(w.heap.size, deltaO D)] => rfind_any D o n xx y ca cs ccap hD off s.w (h.W s) (fun c hc => (valid_okE hv c hc).1))
  have HD := Lib.hid hD
  have hr := find_range hv off
  obtain ⟨S, hS⟩ := start1 w (deltaO D)
  have hF := few_any D o n xx y ca cs ccap hD S.w (h.W S)
  rw [decide_eq_true hf] at hF
  have HV := Lib.hid (fun s : HeldW w [(w.heap.size, deltaO D)] => rdvalid_any D o n xx y ca cs ccap hD s.w (h.W s))
  have hinf := infoDelta hD
  have hg : (w.alloc (deltaO D)).heap[w.heap.size]? = some (deltaO D) := heap_new w _ rfl
  have HGD := Lib.hid (fun s : HeldW w [(w.heap.size, deltaO D)] => s.blocks (w.heap.size, deltaO D) (by simp))
  have HS := Lib.hid hS
  rw [show decide ((faultOf o n cs).1 = 0) = true from decide_eq_true (faultOf_zero.2 hv)] at HV
  generalize findOf cs off = r at *
  have e0 : decide (0 ≤ off) = true := by simp; omega
  have e1 : decide (off < n) = false := by simp; omega
  have e2 : decide (0 ≤ r) = false := by simp; omega
  clear h0 h1
  clear hr hS hD h hf hv
  go_enter Try.func4, Try.ntmps4
  go_wp2_with (refine wpList_load_row rfl 25 (.tmp 2) rfl w.heap.size rfl 25 _ (0, 0) _ hg Try.underlying25 rfl hinf ?_)
  rw [HS.out]
  clear hg
  refine (HeldW.call hF).mono ?_
  rintro e _ ⟨rfl, s2, rfl⟩
  clear hF
  have hg := HGD.out s2
  go_wp2_with (refine wpList_load_rowG rfl 25 (.tmp 2) rfl (some 10) rfl w.heap.size rfl 25 _ (0, 0) _ hg Try.underlying25 rfl hinf ?_)
  clear hg
  refine (HeldW.call (HV.out s2)).mono ?_
  rintro e _ ⟨rfl, s3, rfl⟩
  have hg := HGD.out s3
  go_wp2_with (refine wpList_load_row rfl 25 (.tmp 2) rfl w.heap.size rfl 25 _ (0, 0) _ hg Try.underlying25 rfl hinf ?_)
  clear hg
  refine (HeldW.call (HT.out s3)).mono ?_
  rintro e _ ⟨rfl, s4, rfl⟩
  go_wp2_with fail
  refine (HeldW.call (s := s4) (alive05_gives _)).mono ?_
  rintro e _ ⟨rfl, s5, rfl⟩
  have hg := HGD.out s5
  go_wp2_with (refine wpList_load_rowG rfl 25 (.tmp 2) rfl (some 21) rfl w.heap.size rfl 25 _ (0, 0) _ hg Try.underlying25 rfl hinf ?_)
  clear hg
  refine (HeldW.call (HR.out s5)).mono ?_
  rintro e _ ⟨rfl, s6, rfl⟩
  obtain ⟨d0, d1, d2⟩ := delta_in s6 w.heap.size D o n xx y _ HD.out (by simp)
  clear d0 d2
  go_wp2
  go_ret
  exact ⟨by simp, s6.below⟩

set_option maxRecDepth 100000 in
set_option maxHeartbeats 4000000 in
theorem deltaFinds_left (D : Array Value) (o n : Int) (xx y : List Int) (ca : Option Addr) (cs : List Cmd) (ccap : Nat) (hD : DeltaOf D o n xx y (.slice ca cs.length ccap)) (ho : I64 o) (hn : I64 n) (off : Int) (hoff : I64 off) (w : World) (h : CmdsIn w ca cs ccap) (hf : FewD cs) (hv : ValidD o n cs) (h0 : off < 0) :
    Calls Try.prog 4 #[.agg D, .int .i64 off] w (Gives (.bool true) w) := by
  have HT := Lib.hid (fun s : HeldW w [(w.heap.size, deltaO D)] => dfind_any D o n xx y ca cs ccap hD off s.w (h.W s) (valid_okE hv))
  have HR := Lib.hid (fun s : HeldW w [(w.heap.size, deltaO D)] => rfind_any D o n xx y ca cs ccap hD off s.w (h.W s) (fun c hc => (valid_okE hv c hc).1))
  have HD := Lib.hid hD
  have hr := find_range hv off
  obtain ⟨S, hS⟩ := start1 w (deltaO D)
  have hF := few_any D o n xx y ca cs ccap hD S.w (h.W S)
  rw [decide_eq_true hf] at hF
  have HV := Lib.hid (fun s : HeldW w [(w.heap.size, deltaO D)] => rdvalid_any D o n xx y ca cs ccap hD s.w (h.W s))
  have hinf := infoDelta hD
  have hg : (w.alloc (deltaO D)).heap[w.heap.size]? = some (deltaO D) := heap_new w _ rfl
  have HGD := Lib.hid (fun s : HeldW w [(w.heap.size, deltaO D)] => s.blocks (w.heap.size, deltaO D) (by simp))
  have HS := Lib.hid hS
  rw [show decide ((faultOf o n cs).1 = 0) = true from decide_eq_true (faultOf_zero.2 hv)] at HV
  generalize findOf cs off = r at *
  have e0 : decide (0 ≤ off) = false := by simp; omega
  have e2 : decide (0 ≤ r) = false := by simp; omega
  clear h0
  clear hr hS hD h hf hv
  go_enter Try.func4, Try.ntmps4
  go_wp2_with (refine wpList_load_row rfl 25 (.tmp 2) rfl w.heap.size rfl 25 _ (0, 0) _ hg Try.underlying25 rfl hinf ?_)
  rw [HS.out]
  clear hg
  refine (HeldW.call hF).mono ?_
  rintro e _ ⟨rfl, s2, rfl⟩
  clear hF
  have hg := HGD.out s2
  go_wp2_with (refine wpList_load_rowG rfl 25 (.tmp 2) rfl (some 10) rfl w.heap.size rfl 25 _ (0, 0) _ hg Try.underlying25 rfl hinf ?_)
  clear hg
  refine (HeldW.call (HV.out s2)).mono ?_
  rintro e _ ⟨rfl, s3, rfl⟩
  have hg := HGD.out s3
  go_wp2_with (refine wpList_load_row rfl 25 (.tmp 2) rfl w.heap.size rfl 25 _ (0, 0) _ hg Try.underlying25 rfl hinf ?_)
  clear hg
  refine (HeldW.call (HT.out s3)).mono ?_
  rintro e _ ⟨rfl, s4, rfl⟩
  go_wp2_with fail
  refine (HeldW.call (s := s4) (alive05_gives _)).mono ?_
  rintro e _ ⟨rfl, s5, rfl⟩
  have hg := HGD.out s5
  go_wp2_with (refine wpList_load_rowG rfl 25 (.tmp 2) rfl (some 21) rfl w.heap.size rfl 25 _ (0, 0) _ hg Try.underlying25 rfl hinf ?_)
  clear hg
  refine (HeldW.call (HR.out s5)).mono ?_
  rintro e _ ⟨rfl, s6, rfl⟩
  obtain ⟨d0, d1, d2⟩ := delta_in s6 w.heap.size D o n xx y _ HD.out (by simp)
  clear d0 d2
  go_wp2
  go_ret
  exact ⟨by simp, s6.below⟩

theorem deltaFinds_walk (o n : Int) (xx y : List Int) (ca : Option Addr) (cs : List Cmd) (ccap : Nat) (off : Int) {w : World} (ho : I64 o) (hn : I64 n) (hx : xx.length = 32) (hy : y.length = 32) (h : CmdsIn w ca cs ccap) (hoff : I64 off) :
    Calls Try.prog 4 #[.agg (deltaA o n xx y (.slice ca cs.length ccap)), .int .i64 off] w (Gives (.bool true) w) := by
  have hD : DeltaOf (deltaA o n xx y (.slice ca cs.length ccap)) o n xx y (.slice ca cs.length ccap) := ⟨rfl, hx, hy⟩
  by_cases hf : FewD cs
  · by_cases hv : ValidD o n cs
    · by_cases h0 : 0 ≤ off
      · by_cases h1 : off < n
        · exact deltaFinds_in _ o n xx y ca cs ccap hD ho hn off hoff w h hf hv h0 h1
        · exact deltaFinds_right _ o n xx y ca cs ccap hD ho hn off hoff w h hf hv h0 (by omega)
      · exact deltaFinds_left _ o n xx y ca cs ccap hD ho hn off hoff w h hf hv (by omega)
    · exact deltaFinds_bad _ o n xx y ca cs ccap hD ho hn off hoff w h hf hv
  · exact deltaFinds_big _ o n xx y ca cs ccap hD ho hn off hoff w h hf
end Go.Proofs.Ytifdeeaoaekokaa
