/- DeltaTotals returns true for every delta, and changes nothing that was there. -/
import Derived.Test.Ytifdeeaoaekokaa05Alive
import Derived.Test.Ytifdeeaoaekokaa05RCheck
import Derived.Test.Ytifdeeaoaekokaa05Totals
namespace Go.Proofs.Ytifdeeaoaekokaa
open Go.RowKit Go.Shelf Go.Proofs.Ytifdeeaoaekokaa.Plain01
set_option linter.unusedVariables false
set_option linter.unusedSimpArgs false

set_option maxRecDepth 100000 in
set_option maxHeartbeats 4000000 in
theorem deltaTotals_big (D : Array Value) (o n : Int) (xx y : List Int) (ca : Option Addr) (cs : List Cmd) (ccap : Nat) (hD : DeltaOf D o n xx y (.slice ca cs.length ccap)) (ho : I64 o) (hn : I64 n) (w : World) (h : CmdsIn w ca cs ccap) (hf : ¬ FewD cs) :
    Calls Try.prog 5 #[.agg D] w (Gives (.bool true) w) := by
  obtain ⟨S, hS⟩ := start1 w (deltaO D)
  have hF := few_any D o n xx y ca cs ccap hD S.w (h.W S)
  rw [decide_eq_false hf] at hF
  have hinf := infoDelta hD
  have hg : (w.alloc (deltaO D)).heap[w.heap.size]? = some (deltaO D) := heap_new w _ rfl
  have HS := Lib.hid hS
  clear hS hD h hf
  go_enter Try.func5, Try.ntmps5
  go_wp2_with (refine wpList_load_row rfl 25 (.tmp 1) rfl w.heap.size rfl 25 _ (0, 0) _ hg Try.underlying25 rfl hinf ?_)
  rw [HS.out]
  clear hg
  refine (HeldW.call hF).mono ?_
  rintro e _ ⟨rfl, s2, rfl⟩
  go_wp2_with fail
  refine (HeldW.call (alive05_gives _)).mono ?_
  rintro e _ ⟨rfl, s3, rfl⟩
  go_wp2
  go_ret
  exact ⟨rfl, s3.below⟩

set_option maxRecDepth 100000 in
set_option maxHeartbeats 4000000 in
theorem deltaTotals_bad (D : Array Value) (o n : Int) (xx y : List Int) (ca : Option Addr) (cs : List Cmd) (ccap : Nat) (hD : DeltaOf D o n xx y (.slice ca cs.length ccap)) (ho : I64 o) (hn : I64 n) (w : World) (h : CmdsIn w ca cs ccap) (hf : FewD cs) (hv : ¬ ValidD o n cs) :
    Calls Try.prog 5 #[.agg D] w (Gives (.bool true) w) := by
  obtain ⟨S, hS⟩ := start1 w (deltaO D)
  have hF := few_any D o n xx y ca cs ccap hD S.w (h.W S)
  rw [decide_eq_true hf] at hF
  have HV := Lib.hid (fun s : HeldW w [(w.heap.size, deltaO D)] => rdvalid_any D o n xx y ca cs ccap hD s.w (h.W s))
  have hinf := infoDelta hD
  have hg : (w.alloc (deltaO D)).heap[w.heap.size]? = some (deltaO D) := heap_new w _ rfl
  have HGD := Lib.hid (fun s : HeldW w [(w.heap.size, deltaO D)] => s.blocks (w.heap.size, deltaO D) (by simp))
  have HS := Lib.hid hS
  rw [show decide ((faultOf o n cs).1 = 0) = false from decide_eq_false (fun e => hv (faultOf_zero.1 e))] at HV
  clear hS hD h hf hv
  go_enter Try.func5, Try.ntmps5
  go_wp2_with (refine wpList_load_row rfl 25 (.tmp 1) rfl w.heap.size rfl 25 _ (0, 0) _ hg Try.underlying25 rfl hinf ?_)
  rw [HS.out]
  clear hg
  refine (HeldW.call hF).mono ?_
  rintro e _ ⟨rfl, s2, rfl⟩
  clear hF
  have hg := HGD.out s2
  go_wp2_with (refine wpList_load_rowG rfl 25 (.tmp 1) rfl (some 11) rfl w.heap.size rfl 25 _ (0, 0) _ hg Try.underlying25 rfl hinf ?_)
  clear hg
  refine (HeldW.call (HV.out s2)).mono ?_
  rintro e _ ⟨rfl, s3, rfl⟩
  go_wp2_with fail
  refine (HeldW.call (alive05_gives _)).mono ?_
  rintro e _ ⟨rfl, s4, rfl⟩
  go_wp2
  go_ret
  exact ⟨rfl, s4.below⟩

set_option maxRecDepth 100000 in
set_option maxHeartbeats 4000000 in
theorem deltaTotals_good (D : Array Value) (o n : Int) (xx y : List Int) (ca : Option Addr) (cs : List Cmd) (ccap : Nat) (hD : DeltaOf D o n xx y (.slice ca cs.length ccap)) (ho : I64 o) (hn : I64 n) (w : World) (h : CmdsIn w ca cs ccap) (hf : FewD cs) (hv : ValidD o n cs) :
    Calls Try.prog 5 #[.agg D] w (Gives (.bool true) w) := by
  have HT := Lib.hid (fun s : HeldW w [(w.heap.size, deltaO D)] => dtotals_any D o n xx y ca cs ccap hD s.w (h.W s) hv)
  have HR := Lib.hid (fun s : HeldW w [(w.heap.size, deltaO D)] => rdtotals_any D o n xx y ca cs ccap hD s.w (h.W s) hv)
  have HD := Lib.hid hD
  have hsum := hv.sum
  have hpart := hv.part cs.length
  rw [List.take_length] at hpart
  obtain ⟨hp0, hq0, _⟩ := hpart
  have hnb : n ≤ 4611686018427387903 := by have := hv.lens; unfold LensBad at this; omega
  obtain ⟨S, hS⟩ := start1 w (deltaO D)
  have hF := few_any D o n xx y ca cs ccap hD S.w (h.W S)
  rw [decide_eq_true hf] at hF
  have HV := Lib.hid (fun s : HeldW w [(w.heap.size, deltaO D)] => rdvalid_any D o n xx y ca cs ccap hD s.w (h.W s))
  have hinf := infoDelta hD
  have hg : (w.alloc (deltaO D)).heap[w.heap.size]? = some (deltaO D) := heap_new w _ rfl
  have HGD := Lib.hid (fun s : HeldW w [(w.heap.size, deltaO D)] => s.blocks (w.heap.size, deltaO D) (by simp))
  have HS := Lib.hid hS
  rw [show decide ((faultOf o n cs).1 = 0) = true from decide_eq_true (faultOf_zero.2 hv)] at HV
  generalize copied cs = p at *
  generalize literal cs = q at *
  clear hS hD h hf hv
  go_enter Try.func5, Try.ntmps5
  go_wp2_with (refine wpList_load_row rfl 25 (.tmp 1) rfl w.heap.size rfl 25 _ (0, 0) _ hg Try.underlying25 rfl hinf ?_)
  rw [HS.out]
  clear hg
  refine (HeldW.call hF).mono ?_
  rintro e _ ⟨rfl, s2, rfl⟩
  clear hF
  have hg := HGD.out s2
  go_wp2_with (refine wpList_load_rowG rfl 25 (.tmp 1) rfl (some 11) rfl w.heap.size rfl 25 _ (0, 0) _ hg Try.underlying25 rfl hinf ?_)
  clear hg
  refine (HeldW.call (HV.out s2)).mono ?_
  rintro e _ ⟨rfl, s3, rfl⟩
  have hg := HGD.out s3
  go_wp2_with (refine wpList_load_row rfl 25 (.tmp 1) rfl w.heap.size rfl 25 _ (0, 0) _ hg Try.underlying25 rfl hinf ?_)
  clear hg
  refine (HeldW.call (HT.out s3)).mono ?_
  rintro e _ ⟨rfl, s4, rfl⟩
  have hg := HGD.out s4
  go_wp2_with (refine wpList_load_row rfl 25 (.tmp 1) rfl w.heap.size rfl 25 _ (0, 0) _ hg Try.underlying25 rfl hinf ?_)
  clear hg
  refine (HeldW.call (HR.out s4)).mono ?_
  rintro e _ ⟨rfl, s5, rfl⟩
  go_wp2_with fail
  refine (HeldW.call (s := s5) (alive05_gives _)).mono ?_
  rintro e _ ⟨rfl, s6, rfl⟩
  obtain ⟨d0, d1, d2⟩ := delta_in s6 w.heap.size D o n xx y _ HD.out (by simp)
  clear d0 d2
  go_wp2
  go_ret
  exact ⟨by simp, s6.below⟩

theorem deltaTotals_walk (o n : Int) (xx y : List Int) (ca : Option Addr) (cs : List Cmd) (ccap : Nat) {w : World} (ho : I64 o) (hn : I64 n) (hx : xx.length = 32) (hy : y.length = 32) (h : CmdsIn w ca cs ccap) :
    Calls Try.prog 5 #[.agg (deltaA o n xx y (.slice ca cs.length ccap))] w (Gives (.bool true) w) := by
  have hD : DeltaOf (deltaA o n xx y (.slice ca cs.length ccap)) o n xx y (.slice ca cs.length ccap) := ⟨rfl, hx, hy⟩
  by_cases hf : FewD cs
  · by_cases hv : ValidD o n cs
    · exact deltaTotals_good _ o n xx y ca cs ccap hD ho hn w h hf hv
    · exact deltaTotals_bad _ o n xx y ca cs ccap hD ho hn w h hf hv
  · exact deltaTotals_big _ o n xx y ca cs ccap hD ho hn w h hf
end Go.Proofs.Ytifdeeaoaekokaa
