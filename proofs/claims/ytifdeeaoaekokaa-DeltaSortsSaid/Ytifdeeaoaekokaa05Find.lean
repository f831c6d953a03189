/- delta.Find; slices.IndexFunc over commands. -/
import Derived.Shelf.Abstract
import Derived.Test.Ytifdeeaoaekokaa05RCheck
namespace Go.Proofs.Ytifdeeaoaekokaa
open Go.RowKit Go.Shelf Go.Proofs.Ytifdeeaoaekokaa.Plain01
set_option linter.unusedVariables false
set_option linter.unusedSimpArgs false

abbrev boxI (x : Int) : Obj := .cells #[.int .i64 x] 3 (0, 0)

set_option maxRecDepth 100000 in
set_option maxHeartbeats 4000000 in
theorem findC_any (B : Nat) (x : Int) (c : Cmd) (hok : okE c.tgt = true) (hk : c.k = 1 ∨ c.k = 2) (w : World) (hB : w.heap[B]? = some (boxI x)) :
    Calls Try.prog 36 #[cmdW c, .pointer (some ⟨B, 0, none⟩)] w (Gives (.bool (decide (c.has x))) w) := by
  have hT := mtarget_any c.k c.t c.f c.n hk c.a c.l.length c.cap
  have hE := end_gives c.tgt hok
  have e1 : extV (c.t, wlen c.k c.n c.l.length) = extV c.tgt := rfl
  rw [e1] at hT
  have e2 : decide (c.has x) = decide (c.tgt.1 ≤ x ∧ x < c.tgt.1 + c.tgt.2) := rfl
  rw [e2]
  have hBl := (Array.getElem?_eq_some_iff.1 hB).1
  obtain ⟨S, hS⟩ : ∃ S : HeldW w [(w.heap.size, cmdO c.k c.t c.f c.n (.slice c.a c.l.length c.cap)), (B, boxI x)], w.alloc (cmdO c.k c.t c.f c.n (.slice c.a c.l.length c.cap)) = S.w :=
    ⟨⟨_, (Below.refl _ w).alloc (Nat.le_refl _) _, all2 (heap_new w _ rfl) (heap_old hB _)⟩, rfl⟩
  generalize c.tgt = q at *
  clear e1 e2 hok hB
  have hcase : decide (q.1 ≤ x ∧ x < q.1 + q.2) = true ∧ decide (q.1 ≤ x) = true ∧ decide (x < q.1 + q.2) = true ∨ decide (q.1 ≤ x ∧ x < q.1 + q.2) = false ∧ decide (q.1 ≤ x) = true ∧ decide (x < q.1 + q.2) = false ∨ decide (q.1 ≤ x ∧ x < q.1 + q.2) = false ∧ decide (q.1 ≤ x) = false := by
    simp only [decide_eq_true_eq, decide_eq_false_iff_not]
    omega
  have HS := Lib.hid hS
  clear hS
  rcases hcase with ⟨hr, g1, g2⟩ | ⟨hr, g1, g2⟩ | ⟨hr, g1⟩
  all_goals
    rw [hr]
    clear hr
    go_enter Try.func36, Try.ntmps36
    go_wp2_with fail
    rw [HS.out]
    refine (HeldW.call (s := S) (hT _)).mono ?_
    rintro e _ ⟨rfl, s1, rfl⟩
    go_wp2_with fail
    obtain ⟨B2, S2, hB2, hB02, hlt, hS2⟩ := s1.more1 (extO q)
    rw [hS2, ← hB2]
    clear hS2 hB2 hlt
    have bx : ∀ s : HeldW w ((B2, extO q) :: [(w.heap.size, cmdO c.k c.t c.f c.n (.slice c.a c.l.length c.cap)), (B, boxI x)]), s.w.cell? ⟨B, 0, none⟩ = some (.int .i64 x) := fun s => cell_of (s.blocks (B, boxI x) (by simp)) 0
    refine wp_region_class _ _ (by kernel_rfl) (by kernel_rfl) (S2).below (S2).blocks (fun hne => ?_)
    obtain ⟨e0, e1⟩ := held_extA (S2) (B2) q (by simp)
    repeat (go_big_quiet_step ((go_at_call 38; exact HeldW.call (hE _))))
    refine wpQuiet_nil ?_
    rintro _ ⟨s3, rfl⟩
    clear hne e0 e1
    go_wp2_with fail
    go_ret
    exact ⟨rfl, s3.below⟩

set_option maxRecDepth 100000 in
set_option maxHeartbeats 4000000 in
theorem indexFunc_any (cb : Nat) (lb : Array Value) (ca : Option Addr) (cs : List Cmd) (ccap : Nat) (x : Int) (w : World) (h : CmdsIn w ca cs ccap) (eg : ∀ args w, (callFunc cb args).run Try.prog w = .ok (.enter cb args) w)
    (hf : ∀ (s : HeldW w []) (c : Cmd), c ∈ cs → Calls Try.prog cb (#[cmdW c] ++ lb) s.w (Gives (.bool (decide (c.has x))) s.w)) : Calls Try.prog 35 #[.slice ca cs.length ccap, .func (.func cb) #[] lb] w (Gives (.int .i64 (findOf cs x)) w) := by
  have hpost : Hid (∀ (r : Int) (s : HeldW w []), FindAt cs x r → Gives (.int .i64 (findOf cs x)) w (.returned (.int .i64 r)) s.w) := Lib.hid fun r s hr => by
    rw [findOf_eq hr]; exact ⟨rfl, s.below⟩
  have HC := Lib.hid h
  have HF := Lib.hid hf
  obtain ⟨L, hLe⟩ : ∃ L, L = cs.length := ⟨_, rfl⟩
  have HL := Lib.hid hLe
  have hLcap : L ≤ ccap := by rw [hLe]; exact h.len
  have hccap := h.capb
  rw [← hLe]
  generalize Gives (.int .i64 (findOf cs x)) w = POST at hpost ⊢
  clear h hf hLe
  go_enter Try.func35, Try.ntmps35
  go_wp2
  go_loopw [8] (fun v wr => ∃ k : Nat, k ≤ L ∧ v = .int .i64 k ∧ Hid (∀ (j : Nat) (d : Cmd), j < k → cs[j]? = some d → ¬ d.has x) ∧ ∃ s : HeldW w [], wr = s.w) (fun v _ => L - (intOf v).toNat)
  case atStart => exact ⟨0, by omega, rfl, Lib.hid (fun j d hj => by omega), HeldW.start w, rfl⟩
  case round =>
    obtain ⟨k, hk, rfl, hf, s, rfl⟩ := hrel
    by_cases hlt : k < L
    · obtain ⟨c, hc⟩ : ∃ c, cs[k]? = some c := ⟨_, List.getElem?_eq_getElem (by rw [← HL.out]; exact hlt)⟩
      obtain ⟨b, oo, rfl, x0, x1, x2, x3, x4⟩ := (HC.out.W s).at hc
      have hcc := HF.out s c (List.mem_of_getElem? hc)
      have HCC := Lib.hid hc
      clear hc
      by_cases hh : c.has x
      · have hT : Hid (FindAt cs x k) := Lib.hid ⟨fun h => by omega, fun _ => ⟨k, c, rfl, HCC.out, hh, hf.out⟩⟩
        rw [decide_eq_true hh] at hcc
        clear hh
        go_wp2_with (go_at_fn cb; refine (HeldW.call hcc).mono ?_; rintro e _ ⟨rfl, s2, rfl⟩)
        exact hpost.out _ s2 hT.out
      · have hstep : Hid (∀ (j : Nat) (d : Cmd), j < k + 1 → cs[j]? = some d → ¬ d.has x) := Lib.hid fun j d hj hd => by
          by_cases e : j = k
          · subst e; rw [HCC.out] at hd; cases hd; exact hh
          · exact hf.out j d (by omega) hd
        rw [decide_eq_false hh] at hcc
        clear hh
        go_wp2_with (go_at_fn cb; refine (HeldW.call hcc).mono ?_; rintro e _ ⟨rfl, s2, rfl⟩)
        go_roundw
        case rel => exact ⟨k + 1, by omega, by go_num, hstep, s2, rfl⟩
        case measure => simp [intOf]; omega
    · obtain rfl : k = L := by omega
      have hT : Hid (FindAt cs x (-1)) := Lib.hid ⟨fun _ c hc => by
        obtain ⟨j, hj⟩ := List.getElem?_of_mem hc
        exact hf.out j c (by rw [HL.out]; exact (List.getElem?_eq_some_iff.1 hj).1) hj, fun h => absurd rfl h⟩
      go_wp2
      exact hpost.out _ s hT.out

set_option maxRecDepth 100000 in
set_option maxHeartbeats 4000000 in
theorem dfind_any (D : Array Value) (o n : Int) (xx y : List Int) (ca : Option Addr) (cs : List Cmd) (ccap : Nat) (hD : DeltaOf D o n xx y (.slice ca cs.length ccap)) (x : Int) (w : World) (h : CmdsIn w ca cs ccap) (hok : ∀ c ∈ cs, okE c.tgt = true ∧ (c.k = 1 ∨ c.k = 2)) :
    Calls Try.prog 15 #[.agg D, .int .i64 x] w (Gives (.int .i64 (findOf cs x)) w) := by
  obtain ⟨S, hS⟩ := start2 w (deltaO D) (boxI x)
  have hi := indexFunc_any 36 #[.pointer (some ⟨w.heap.size + 1, 0, none⟩)] ca cs ccap x S.w (h.W S) (enters_of Try.func36 (by kernel_rfl) rfl)
    (fun s c hc => findC_any (w.heap.size + 1) x c (hok c hc).1 (hok c hc).2 s.w (heap_below (S.blocks (w.heap.size + 1, boxI x) (by simp)) s.below))
  have d2 := (delta_held hD S w.heap.size (by simp)).2.2
  generalize findOf cs x = r at hi ⊢
  generalize cs.length = L at hi d2
  rw [← hS] at d2
  have HS := Lib.hid hS
  clear hD h hok hS
  go_enter Try.func15, Try.ntmps15
  go_wp2_with fail
  rw [HS.out]
  clear d2
  refine (HeldW.call hi).mono ?_
  rintro e _ ⟨rfl, s2, rfl⟩
  go_wp2
  go_ret
  exact ⟨rfl, s2.below⟩
end Go.Proofs.Ytifdeeaoaekokaa
