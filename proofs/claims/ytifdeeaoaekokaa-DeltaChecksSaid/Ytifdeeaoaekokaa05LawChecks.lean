/- DeltaChecks returns true for every delta, and changes nothing that was there. -/
import Derived.Test.Ytifdeeaoaekokaa05Alive
import Derived.Test.Ytifdeeaoaekokaa05RCheck
namespace Go.Proofs.Ytifdeeaoaekokaa
open Go.RowKit Go.Shelf Go.Proofs.Ytifdeeaoaekokaa.Plain01
set_option linter.unusedVariables false
set_option linter.unusedSimpArgs false

set_option maxRecDepth 100000 in
set_option maxHeartbeats 4000000 in
theorem deltaChecks_big (D : Array Value) (o n : Int) (xx y : List Int) (ca : Option Addr) (cs : List Cmd) (ccap : Nat) (hD : DeltaOf D o n xx y (.slice ca cs.length ccap)) (ho : I64 o) (hn : I64 n) (w : World) (h : CmdsIn w ca cs ccap) (hf : ¬ FewD cs) :
    Calls Try.prog 3 #[.agg D] w (Gives (.bool true) w) := by
  obtain ⟨S, hS⟩ := start1 w (deltaO D)
  have hF := few_any D o n xx y ca cs ccap hD S.w (h.W S)
  rw [decide_eq_false hf] at hF
  have hinf := infoDelta hD
  have hg : (w.alloc (deltaO D)).heap[w.heap.size]? = some (deltaO D) := heap_new w _ rfl
  have HS := Lib.hid hS
  clear hS hD h hf
  go_enter Try.func3, Try.ntmps3
  go_wp2_with (refine wpList_load_row rfl 25 (.tmp 1) rfl w.heap.size rfl 25 _ (0, 0) _ hg Try.underlying25 rfl hinf ?_)
  rw [HS.out]
  clear hg
  refine (HeldW.call hF).mono ?_
  rintro e _ ⟨rfl, s2, rfl⟩
  go_wp2_with fail
  refine (HeldW.call (alive05_gives _)).mono ?_
  rintro e _ ⟨rfl, s3, rfl⟩
  go_wp2
  go_ret
  exact ⟨rfl, s3.below⟩

set_option maxRecDepth 100000 in
set_option maxHeartbeats 4000000 in
theorem deltaChecks_good (D : Array Value) (o n : Int) (xx y : List Int) (ca : Option Addr) (cs : List Cmd) (ccap : Nat) (hD : DeltaOf D o n xx y (.slice ca cs.length ccap)) (ho : I64 o) (hn : I64 n) (w : World) (h : CmdsIn w ca cs ccap) (hf : FewD cs) :
    Calls Try.prog 3 #[.agg D] w (Gives (.bool true) w) := by
  obtain ⟨S, hS⟩ := start1 w (deltaO D)
  have hF := few_any D o n xx y ca cs ccap hD S.w (h.W S)
  rw [decide_eq_true hf] at hF
  have hL : cs.length ≤ 1000000 := by have := hf.2; omega
  have HR := Lib.hid (fun s : HeldW w [(w.heap.size, deltaO D)] => rdcheck_any D o n xx y ca cs ccap hD s.w (h.W s))
  have HC := Lib.hid (fun s : HeldW w [(w.heap.size, deltaO D)] => dcheck_any D o n xx y ca cs ccap hD s.w (h.W s) hL ho hn)
  have HV := Lib.hid (fun (W : World) (hW : Below w.heap.size w W) => dvalid_any D o n xx y ca cs ccap hD W (h.below hW) hL ho hn)
  have hinf := infoDelta hD
  have hg : (w.alloc (deltaO D)).heap[w.heap.size]? = some (deltaO D) := heap_new w _ rfl
  have HGD := Lib.hid (fun s : HeldW w [(w.heap.size, deltaO D)] => s.blocks (w.heap.size, deltaO D) (by simp))
  have HS := Lib.hid hS
  generalize faultOf o n cs = f at *
  obtain ⟨e, a⟩ := f
  simp only at HR HC HV
  clear hS hD h hf hL
  go_enter Try.func3, Try.ntmps3
  go_wp2_with (refine wpList_load_row rfl 25 (.tmp 1) rfl w.heap.size rfl 25 _ (0, 0) _ hg Try.underlying25 rfl hinf ?_)
  rw [HS.out]
  clear hg
  refine (HeldW.call hF).mono ?_
  rintro _ _ ⟨rfl, s2, rfl⟩
  clear hF
  have hg := HGD.out s2
  go_wp2_with (refine wpList_load_row rfl 25 (.tmp 1) rfl w.heap.size rfl 25 _ (0, 0) _ hg Try.underlying25 rfl hinf ?_)
  clear hg
  refine (HeldW.call (HR.out s2)).mono ?_
  rintro _ _ ⟨rfl, s3, rfl⟩
  have hg := HGD.out s3
  go_wp2_with (refine wpList_load_row rfl 25 (.tmp 1) rfl w.heap.size rfl 25 _ (0, 0) _ hg Try.underlying25 rfl hinf ?_)
  clear hg
  refine (HeldW.call (HC.out s3)).mono ?_
  rintro _ _ ⟨rfl, s4, rfl⟩
  go_wp2_with fail
  obtain ⟨B, s5, hB, hB0, _, hS5⟩ := s4.more1 (.cells #[.int .i64 e, .int .i64 a] 32 (0, 0))
  rw [hS5, ← hB]
  clear hS5 hB
  refine (HeldW.call (s := s5) (alive05_gives _)).mono ?_
  rintro _ _ ⟨rfl, s6, rfl⟩
  have q := s6.blocks (B, .cells #[.int .i64 e, .int .i64 a] 32 (0, 0)) (by simp)
  have q0 : s6.w.cell? ⟨B, 0, none⟩ = some (.int .i64 e) := by rw [cell_of q]; rfl
  have q1 : s6.w.cell? ⟨B, 1, none⟩ = some (.int .i64 a) := by rw [cell_of q]; rfl
  have hg : s6.w.heap[w.heap.size]? = some (deltaO D) := s6.blocks (w.heap.size, deltaO D) (by simp)
  clear q
  go_wp2_with (refine wpList_load_rowG rfl 25 (.tmp 1) rfl (some 31) rfl w.heap.size rfl 25 _ (0, 0) _ hg Try.underlying25 rfl hinf ?_)
  clear hg q0 q1
  refine (HeldW.call (HV.out s6.w s6.below)).mono ?_
  rintro _ _ ⟨rfl, s7, rfl⟩
  by_cases he : e = 0
  · have e1 : decide (e = 0) = true := decide_eq_true he
    have e2 : (e == 0) = true := by simpa using he
    rw [e1]
    clear he e1
    go_wp2
    go_ret
    exact ⟨by simp, s7.below⟩
  · have e1 : decide (e = 0) = false := decide_eq_false he
    have e2 : (e == 0) = false := by simpa using he
    rw [e1]
    clear he e1
    go_wp2
    go_ret
    exact ⟨by simp, s7.below⟩

theorem deltaChecks_walk (o n : Int) (xx y : List Int) (ca : Option Addr) (cs : List Cmd) (ccap : Nat) {w : World} (ho : I64 o) (hn : I64 n) (hx : xx.length = 32) (hy : y.length = 32) (h : CmdsIn w ca cs ccap) :
    Calls Try.prog 3 #[.agg (deltaA o n xx y (.slice ca cs.length ccap))] w (Gives (.bool true) w) := by
  have hD : DeltaOf (deltaA o n xx y (.slice ca cs.length ccap)) o n xx y (.slice ca cs.length ccap) := ⟨rfl, hx, hy⟩
  by_cases hf : FewD cs
  · exact deltaChecks_good _ o n xx y ca cs ccap hD ho hn w h hf
  · exact deltaChecks_big _ o n xx y ca cs ccap hD ho hn w h hf
end Go.Proofs.Ytifdeeaoaekokaa
