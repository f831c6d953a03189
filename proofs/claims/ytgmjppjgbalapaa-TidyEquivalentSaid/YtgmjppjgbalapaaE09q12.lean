/- has, Find and Few of the reference. single and gap of the reference. gap of the reference, walked. Check and Valid of the reference. -/
import Derived.Test.YtgmjppjgbalapaaE09q8
import Derived.BigQuiet
import Derived.Test.YtgmjppjgbalapaaE09q10
import Derived.Test.YtgmjppjgbalapaaE09q11
namespace Go.Proofs.Ytgmjppjgbalapaa
open Go.RowKit Go.Shelf Go.Proofs.Ytgmjppjgbalapaa.Plain01
set_option linter.unusedVariables false
set_option linter.unusedSimpArgs false

theorem rhas_any (e : Int × Int) (at_ : Int) (he : okE e = true) (w : World) : Calls Try.prog 80 #[extV e, .int .i64 at_] w (Gives (.bool (decide (e.1 ≤ at_ ∧ at_ < e.1 + e.2))) w) := by
  obtain ⟨e0, e1, e2⟩ := okE_iff.1 he
  have hB : Below w.heap.size w (w.alloc (extO e)) := (Below.refl _ w).alloc (Nat.le_refl _) _
  have HB := Lib.hid hB
  clear he hB
  by_cases c1 : e.1 ≤ at_
  · by_cases c2 : at_ < e.1 + e.2
    · rw [show decide (e.1 ≤ at_ ∧ at_ < e.1 + e.2) = true by simp [c1, c2]]
      go_enter Try.func80, Try.ntmps80
      go_wp2
      go_ret
      exact ⟨rfl, HB.out⟩
    · rw [show decide (e.1 ≤ at_ ∧ at_ < e.1 + e.2) = false by simp [c1]; omega]
      go_enter Try.func80, Try.ntmps80
      go_wp2
      go_ret
      exact ⟨by simp, HB.out⟩
  · rw [show decide (e.1 ≤ at_ ∧ at_ < e.1 + e.2) = false by simp [c1]]
    go_enter Try.func80, Try.ntmps80
    go_wp2
    go_ret
    exact ⟨by simp, HB.out⟩

theorem rdhas_any (c : Cmd) (x : Int) (hok : okE c.tgt = true) (w : World) : Calls Try.prog 61 #[cmdW c, .int .i64 x] w (Gives (.bool (decide (c.has x))) w) := by
  have h1 := rtarget_any c.k c.t c.f c.n c.a c.l.length c.cap
  have h2 := rhas_any c.tgt x hok
  have e1 : wlen c.k c.n c.l.length = c.w := rfl
  rw [e1] at h1
  have e2 : decide (c.has x) = decide (c.tgt.1 ≤ x ∧ x < c.tgt.1 + c.tgt.2) := rfl
  rw [e2]
  generalize decide (c.tgt.1 ≤ x ∧ x < c.tgt.1 + c.tgt.2) = r at h2 ⊢
  simp only [Cmd.tgt] at h2
  generalize c.w = W at h1 h2
  clear e1 e2 hok
  go_enter Try.func61, Try.ntmps61
  go_wp2_with fail
  refine (HeldW.call (s := (HeldW.start w).push (cmdO c.k c.t c.f c.n (.slice c.a c.l.length c.cap))) (h1 _)).mono ?_
  rintro e _ ⟨rfl, s1, rfl⟩
  go_wp2_with fail
  refine (HeldW.call (s := s1) (h2 _)).mono ?_
  rintro e _ ⟨rfl, s2, rfl⟩
  go_wp2_with fail
  go_wp2
  go_ret
  exact ⟨rfl, s2.below⟩

/-- The first command that has a byte. -/
structure FindAt (cs : List Cmd) (x : Int) (r : Int) : Prop where
  no : r = -1 → ∀ c ∈ cs, ¬ c.has x
  yes : r ≠ -1 → ∃ (i : Nat) (c : Cmd), r = i ∧ cs[i]? = some c ∧ c.has x ∧ ∀ (j : Nat) (d : Cmd), j < i → cs[j]? = some d → ¬ d.has x
theorem find_exists (cs : List Cmd) (x : Int) : ∃ r, FindAt cs x r := by
  induction cs with
  | nil => exact ⟨-1, fun _ c hc => by simp at hc, fun h => absurd rfl h⟩
  | cons c cs ih =>
    by_cases h : c.has x
    · exact ⟨0, fun h => by omega, fun _ => ⟨0, c, rfl, rfl, h, fun j _ hj => by omega⟩⟩
    · obtain ⟨r, h1, h2⟩ := ih
      by_cases hr : r = -1
      · subst hr
        refine ⟨-1, fun _ d hd => ?_, fun h => absurd rfl h⟩
        rcases List.mem_cons.1 hd with rfl | hd
        · exact h
        · exact h1 rfl d hd
      · obtain ⟨i, d, rfl, hi, hd, hf⟩ := h2 hr
        refine ⟨((i + 1 : Nat) : Int), fun h => by omega, fun _ => ⟨i + 1, d, rfl, by simpa using hi, hd, fun j d' hj hd' => ?_⟩⟩
        cases j with
        | zero => simp at hd'; subst hd'; exact h
        | succ j => exact hf j d' (by omega) (by simpa using hd')
noncomputable def findOf (cs : List Cmd) (x : Int) : Int := Classical.choose (find_exists cs x)
theorem findOf_spec (cs : List Cmd) (x : Int) : FindAt cs x (findOf cs x) := Classical.choose_spec (find_exists cs x)
theorem FindAt.unique {cs : List Cmd} {x r r' : Int} (h : FindAt cs x r) (h' : FindAt cs x r') : r = r' := by
  by_cases hr : r = -1
  · by_cases hr' : r' = -1
    · omega
    · obtain ⟨i, c, _, hi, hc, _⟩ := h'.yes hr'
      exact absurd hc (h.no hr c (List.mem_of_getElem? hi))
  · obtain ⟨i, c, rfl, hi, hc, hf⟩ := h.yes hr
    by_cases hr' : r' = -1
    · exact absurd hc (h'.no hr' c (List.mem_of_getElem? hi))
    · obtain ⟨j, d, rfl, hj, hd, hg⟩ := h'.yes hr'
      rcases Nat.lt_trichotomy i j with h1 | h1 | h1
      · exact absurd hc (hg i c h1 hi)
      · rw [h1]
      · exact absurd hd (hf j d h1 hj)
theorem findOf_eq {cs : List Cmd} {x r : Int} (h : FindAt cs x r) : findOf cs x = r := (findOf_spec cs x).unique h
theorem findOf_neg {cs : List Cmd} {x : Int} : findOf cs x < 0 ↔ ∀ c ∈ cs, ¬ c.has x := by
  have h := findOf_spec cs x
  constructor
  · intro hn
    by_cases hr : findOf cs x = -1
    · exact h.no hr
    · obtain ⟨i, c, hi, _⟩ := h.yes hr
      omega
  · intro hn
    by_cases hr : findOf cs x = -1
    · omega
    · obtain ⟨i, c, _, hi, hc, _⟩ := h.yes hr
      exact absurd hc (hn c (List.mem_of_getElem? hi))
theorem cov_has {cs : List Cmd} {x : Int} : Cov (cs.map Cmd.tgt) x ↔ ∃ c ∈ cs, c.has x := by
  constructor
  · intro ⟨p, hp, h⟩
    obtain ⟨c, hc, rfl⟩ := List.mem_map.1 hp
    exact ⟨c, hc, h⟩
  · intro ⟨c, hc, h⟩
    exact ⟨_, List.mem_map.2 ⟨c, hc, rfl⟩, h⟩

set_option maxRecDepth 100000 in
set_option maxHeartbeats 4000000 in
theorem rfind_any (D : Array Value) (o n : Int) (xx y : List Int) (ca : Option Addr) (cs : List Cmd) (ccap : Nat) (hD : DeltaOf D o n xx y (.slice ca cs.length ccap)) (x : Int) (w : World) (h : CmdsIn w ca cs ccap) (hok : ∀ c ∈ cs, okE c.tgt = true) :
    Calls Try.prog 45 #[.agg D, .int .i64 x] w (Gives (.int .i64 (findOf cs x)) w) := by
  have hpost : Hid (∀ (r : Int) (s : HeldW w [(w.heap.size, deltaO D)]), FindAt cs x r → Gives (.int .i64 (findOf cs x)) w (.returned (.int .i64 r)) s.w) := Lib.hid fun r s hr => by
    rw [findOf_eq hr]; exact ⟨rfl, s.below⟩
  have HD := Lib.hid hD
  have HC := Lib.hid h
  have HK := Lib.hid hok
  obtain ⟨L, hLe⟩ : ∃ L, L = cs.length := ⟨_, rfl⟩
  have HL := Lib.hid hLe
  rw [← hLe] at HD
  have hLcap : L ≤ ccap := by rw [hLe]; exact h.len
  have hccap := h.capb
  generalize Gives (.int .i64 (findOf cs x)) w = POST at hpost ⊢
  clear hD h hok hLe
  go_enter Try.func45, Try.ntmps45
  go_wp2
  obtain ⟨S, hS⟩ := start1 w (deltaO D)
  rw [hS]
  clear hS
  go_loopw [5] (fun v wr => ∃ k : Nat, k ≤ L ∧ v = .int .i64 k ∧ Hid (∀ (j : Nat) (d : Cmd), j < k → cs[j]? = some d → ¬ d.has x) ∧ ∃ s : HeldW w [(w.heap.size, deltaO D)], wr = s.w) (fun v _ => L - (intOf v).toNat)
  case atStart => exact ⟨0, by omega, rfl, Lib.hid (fun j d hj => by omega), S, rfl⟩
  case round =>
    clear S
    obtain ⟨k, hk, rfl, hf, s, rfl⟩ := hrel
    obtain ⟨d0, d1, d2⟩ := delta_in s w.heap.size D o n xx y (.slice ca L ccap) HD.out (by simp)
    by_cases hlt : k < L
    · obtain ⟨c, hc⟩ : ∃ c, cs[k]? = some c := ⟨_, List.getElem?_eq_getElem (by rw [← HL.out]; exact hlt)⟩
      obtain ⟨b, oo, rfl, x0, x1, x2, x3, x4⟩ := (HC.out.W s).at hc
      have hcc := rdhas_any c x (HK.out c (List.mem_of_getElem? hc)) s.w
      have HCC := Lib.hid hc
      clear hc
      by_cases hh : c.has x
      · have hT : Hid (FindAt cs x k) := Lib.hid ⟨fun h => by omega, fun _ => ⟨k, c, rfl, HCC.out, hh, hf.out⟩⟩
        rw [decide_eq_true hh] at hcc
        clear hh
        go_wp2_with (go_at_call 61; refine (HeldW.call hcc).mono ?_; rintro e _ ⟨rfl, s2, rfl⟩)
        exact hpost.out _ s2 hT.out
      · have hstep : Hid (∀ (j : Nat) (d : Cmd), j < k + 1 → cs[j]? = some d → ¬ d.has x) := Lib.hid fun j d hj hd => by
          by_cases e : j = k
          · subst e; rw [HCC.out] at hd; cases hd; exact hh
          · exact hf.out j d (by omega) hd
        rw [decide_eq_false hh] at hcc
        clear hh
        go_wp2_with (go_at_call 61; refine (HeldW.call hcc).mono ?_; rintro e _ ⟨rfl, s2, rfl⟩)
        go_roundw
        case rel => exact ⟨k + 1, by omega, by go_num, hstep, s2, rfl⟩
        case measure => simp [intOf]; omega
    · obtain rfl : k = L := by omega
      have hT : Hid (FindAt cs x (-1)) := Lib.hid ⟨fun _ c hc => by
        obtain ⟨j, hj⟩ := List.getElem?_of_mem hc
        exact hf.out j c (by rw [HL.out]; exact (List.getElem?_eq_some_iff.1 hj).1) hj, fun h => absurd rfl h⟩
      go_wp2
      exact hpost.out _ s hT.out

/-- Few commands, of few bytes. -/
def FewD (cs : List Cmd) : Prop := (∀ c ∈ cs, c.l.length ≤ 300) ∧ cs.length ≤ 40
instance (cs : List Cmd) : Decidable (FewD cs) := by unfold FewD; exact inferInstance
set_option maxRecDepth 100000 in
set_option maxHeartbeats 4000000 in
theorem few_any (D : Array Value) (o n : Int) (xx y : List Int) (ca : Option Addr) (cs : List Cmd) (ccap : Nat) (hD : DeltaOf D o n xx y (.slice ca cs.length ccap)) (w : World) (h : CmdsIn w ca cs ccap) :
    Calls Try.prog 34 #[.agg D] w (Gives (.bool (decide (FewD cs))) w) := by
  have hpost : Hid (∀ (r : Bool) (s : HeldW w [(w.heap.size, deltaO D)]), r = decide (FewD cs) → Gives (.bool (decide (FewD cs))) w (.returned (.bool r)) s.w) := Lib.hid fun r s hr => by
    rw [← hr]; exact ⟨rfl, s.below⟩
  have HD := Lib.hid hD
  have HC := Lib.hid h
  obtain ⟨L, hLe⟩ : ∃ L, L = cs.length := ⟨_, rfl⟩
  have HL := Lib.hid hLe
  rw [← hLe] at HD
  have hLcap : L ≤ ccap := by rw [hLe]; exact h.len
  have hccap := h.capb
  generalize Gives (.bool (decide (FewD cs))) w = POST at hpost ⊢
  clear hD h hLe
  go_enter Try.func34, Try.ntmps34
  go_wp2
  obtain ⟨S, hS⟩ := start1 w (deltaO D)
  rw [hS]
  clear hS
  go_loopw [3] (fun v wr => ∃ k : Nat, k ≤ L ∧ v = .int .i64 k ∧ Hid (∀ (j : Nat) (d : Cmd), j < k → cs[j]? = some d → d.l.length ≤ 300) ∧ ∃ s : HeldW w [(w.heap.size, deltaO D)], wr = s.w) (fun v _ => L - (intOf v).toNat)
  case atStart => exact ⟨0, by omega, rfl, Lib.hid (fun j d hj => by omega), S, rfl⟩
  case round =>
    clear S
    obtain ⟨k, hk, rfl, hf, s, rfl⟩ := hrel
    obtain ⟨d0, d1, d2⟩ := delta_in s w.heap.size D o n xx y (.slice ca L ccap) HD.out (by simp)
    by_cases hlt : k < L
    · obtain ⟨c, hc⟩ : ∃ c, cs[k]? = some c := ⟨_, List.getElem?_eq_getElem (by rw [← HL.out]; exact hlt)⟩
      obtain ⟨b, oo, rfl, x0, x1, x2, x3, x4⟩ := (HC.out.W s).at hc
      have hcl : c.l.length ≤ 9223372036854775807 := Nat.le_trans (HC.out.ok c (List.mem_of_getElem? hc)).b.len (HC.out.ok c (List.mem_of_getElem? hc)).b.capb
      have HCC := Lib.hid hc
      clear hc
      by_cases hh : 300 < c.l.length
      · have hT : Hid (false = decide (FewD cs)) := Lib.hid (by
          symm
          rw [decide_eq_false_iff_not]
          intro hF
          have := hF.1 c (List.mem_of_getElem? HCC.out)
          omega)
        generalize c.l.length = M at *
        go_wp2
        exact hpost.out _ s hT.out
      · have hstep : Hid (∀ (j : Nat) (d : Cmd), j < k + 1 → cs[j]? = some d → d.l.length ≤ 300) := Lib.hid fun j d hj hd => by
          by_cases e : j = k
          · subst e; rw [HCC.out] at hd; cases hd; omega
          · exact hf.out j d (by omega) hd
        generalize c.l.length = M at *
        go_wp2
        go_roundw
        case rel => exact ⟨k + 1, by omega, by go_num, hstep, s, rfl⟩
        case measure => simp [intOf]; omega
    · obtain rfl : k = L := by omega
      have hT : Hid (decide ((k : Int) ≤ 40) = decide (FewD cs)) := Lib.hid (by
        have hall : ∀ c ∈ cs, c.l.length ≤ 300 := fun c hc => by
          obtain ⟨j, hj⟩ := List.getElem?_of_mem hc
          exact hf.out j c (by rw [HL.out]; exact (List.getElem?_eq_some_iff.1 hj).1) hj
        rw [decide_eq_decide]
        unfold FewD
        rw [HL.out]
        exact ⟨fun h => ⟨hall, by omega⟩, fun h => by have := h.2; omega⟩)
      go_wp2
      exact hpost.out _ s hT.out
end Go.Proofs.Ytgmjppjgbalapaa

namespace Go.Proofs.Ytgmjppjgbalapaa
open Go.RowKit Go.Shelf Go.Proofs.Ytgmjppjgbalapaa.Plain01
set_option linter.unusedVariables false
set_option linter.unusedSimpArgs false

/-- What is known of a command without a fault. -/
theorem single_facts {o n : Int} {c : Cmd} (h : single o n c = 0) (hl : ¬ LensBad o n) : okE c.tgt = true ∧ 0 ≤ c.t ∧ 1 ≤ c.w ∧ c.t + c.w ≤ n := by
  have h1 := (single_ok h).2.1
  refine ⟨?_, h1⟩
  rw [okE_iff]
  unfold LensBad at hl
  unfold Cmd.tgt
  simp only
  omega

set_option maxRecDepth 100000 in
set_option maxHeartbeats 4000000 in
theorem rsingle_any (D : Array Value) (o n : Int) (x y : List Int) (v : Value) (hD : DeltaOf D o n x y v) (c : Cmd) (hk : I64 c.t ∧ I64 c.f ∧ I64 c.n ∧ I64 c.l.length) (w : World) :
    Calls Try.prog 67 #[.agg D, cmdW c] w (Gives (.int .i64 (single o n c)) w) := by
  have hc := rcheck_any c.k c.t c.f c.n c.a c.l.length c.cap hk.1 hk.2.1 hk.2.2.1 hk.2.2.2
  have hcode : chk c.k c.t c.f c.n c.l.length = c.code := rfl
  rw [hcode] at hc
  have HD := Lib.hid hD
  by_cases h0 : c.code ≠ 0
  · have hr : single o n c = c.code := by unfold single; rw [if_pos h0]
    rw [hr]
    generalize c.code = e0 at *
    have h1 : (e0 != 0) = true := by simpa using h0
    clear hr hcode hk hD h0
    go_enter Try.func67, Try.ntmps67
    go_wp2_with fail
    obtain ⟨S, hS⟩ := start2 w (deltaO D) (cmdO c.k c.t c.f c.n (.slice c.a c.l.length c.cap))
    rw [hS]
    clear hS
    refine (HeldW.call (s := S) (hc _)).mono ?_
    rintro e _ ⟨rfl, s1, rfl⟩
    go_wp2_with fail
    go_wp2
    go_ret
    exact ⟨rfl, s1.below⟩
  · have h0' : c.code = 0 := Classical.byContradiction h0
    rw [h0'] at hc
    have hlen := rlen_any c.k c.t c.f c.n c.a c.l.length c.cap
    rcases chk_ok h0' with ⟨hk1, hL, hn, o1, o2⟩ | ⟨hk1, hf, hn, hL, o1⟩
    · obtain ⟨k, t, f, m, l, a, cap⟩ := c
      simp only at hk1 hL hn o1 o2 hk hc hlen ⊢
      subst hk1
      rw [show wlen 1 m l.length = m by unfold wlen; rw [if_pos rfl]] at hlen
      have hr : single o n ⟨1, t, f, m, l, a, cap⟩ = if o < f + m then 5 else if n < t + m then 6 else 0 := by
        unfold single
        rw [if_neg (by simpa using h0')]
        simp [Cmd.w, wlen]
      rw [hr]
      show Calls Try.prog _ #[.agg D, cmdV 1 t f m (.slice a l.length cap)] w _
      obtain ⟨a0, a1, a2⟩ := okE_iff.1 o1
      obtain ⟨f0, f1, f2⟩ := okE_iff.1 o2
      simp only at a0 a1 a2 f0 f1 f2
      generalize l.length = L at *
      clear hr hk hD h0 h0' hL hn o1 o2 hcode
      by_cases c1 : o < f + m
      · rw [if_pos c1]
        go_enter Try.func67, Try.ntmps67
        go_wp2_with fail
        obtain ⟨S, hS⟩ := start2 w (deltaO D) (cmdO 1 t f m (.slice a L cap))
        rw [hS]
        clear hS
        refine (HeldW.call (s := S) (hc _)).mono ?_
        rintro e _ ⟨rfl, s1, rfl⟩
        obtain ⟨q0, q1, q2, q3, q4, q5⟩ := held_cmd s1 (w.heap.size + 1) 1 t f m (.slice a L cap) (by simp)
        obtain ⟨d0, d1, d2⟩ := delta_in s1 (w.heap.size) D o n x y v HD.out (by simp)
        go_wp2_with fail
        go_ret
        exact ⟨rfl, s1.below⟩
      · rw [if_neg c1]
        by_cases c2 : n < t + m
        · rw [if_pos c2]
          go_enter Try.func67, Try.ntmps67
          go_wp2_with fail
          obtain ⟨S, hS⟩ := start2 w (deltaO D) (cmdO 1 t f m (.slice a L cap))
          rw [hS]
          clear hS
          refine (HeldW.call (s := S) (hc _)).mono ?_
          rintro e _ ⟨rfl, s1, rfl⟩
          obtain ⟨q0, q1, q2, q3, q4, q5⟩ := held_cmd s1 (w.heap.size + 1) 1 t f m (.slice a L cap) (by simp)
          obtain ⟨d0, d1, d2⟩ := delta_in s1 (w.heap.size) D o n x y v HD.out (by simp)
          go_wp2_with fail
          clear q0 q1 q2 q3 q4 q5 d0 d1 d2
          refine wp_region_class _ _ (by kernel_rfl) (by kernel_rfl) (s1).below (s1).blocks (fun hne => ?_)
          obtain ⟨d0, d1, d2⟩ := delta_inA (s1) (w.heap.size) D o n x y v HD.out (by simp)
          obtain ⟨q0, q1, q2, q3, q4⟩ := held_cmdA (s1) (w.heap.size + 1) 1 t f m (.slice a L cap) (by simp)
          repeat (go_big_quiet_step ((go_at_call 26; exact HeldW.call (hlen _))))
          refine wpQuiet_nil ?_
          rintro _ ⟨s5, rfl⟩
          clear hne d0 d1 d2 q0 q1 q2 q3 q4
          go_wp2_with fail
          go_ret
          exact ⟨rfl, s5.below⟩
        · rw [if_neg c2]
          go_enter Try.func67, Try.ntmps67
          go_wp2_with fail
          obtain ⟨S, hS⟩ := start2 w (deltaO D) (cmdO 1 t f m (.slice a L cap))
          rw [hS]
          clear hS
          refine (HeldW.call (s := S) (hc _)).mono ?_
          rintro e _ ⟨rfl, s1, rfl⟩
          obtain ⟨q0, q1, q2, q3, q4, q5⟩ := held_cmd s1 (w.heap.size + 1) 1 t f m (.slice a L cap) (by simp)
          obtain ⟨d0, d1, d2⟩ := delta_in s1 (w.heap.size) D o n x y v HD.out (by simp)
          go_wp2_with fail
          clear q0 q1 q2 q3 q4 q5 d0 d1 d2
          refine wp_region_class _ _ (by kernel_rfl) (by kernel_rfl) (s1).below (s1).blocks (fun hne => ?_)
          obtain ⟨d0, d1, d2⟩ := delta_inA (s1) (w.heap.size) D o n x y v HD.out (by simp)
          obtain ⟨q0, q1, q2, q3, q4⟩ := held_cmdA (s1) (w.heap.size + 1) 1 t f m (.slice a L cap) (by simp)
          repeat (go_big_quiet_step ((go_at_call 26; exact HeldW.call (hlen _))))
          refine wpQuiet_nil ?_
          rintro _ ⟨s5, rfl⟩
          clear hne d0 d1 d2 q0 q1 q2 q3 q4
          go_wp2_with fail
          go_ret
          exact ⟨rfl, s5.below⟩
    · obtain ⟨k, t, f, m, l, a, cap⟩ := c
      simp only at hk1 hL hf hn o1 hk hc hlen ⊢
      subst hk1 hf hn
      rw [show wlen 2 0 l.length = l.length by unfold wlen; rw [if_neg (by omega)]] at hlen
      have hr : single o n ⟨2, t, 0, 0, l, a, cap⟩ = if n < t + l.length then 6 else 0 := by
        unfold single
        rw [if_neg (by simpa using h0')]
        simp [Cmd.w, wlen]
      rw [hr]
      show Calls Try.prog _ #[.agg D, cmdV 2 t 0 0 (.slice a l.length cap)] w _
      obtain ⟨a0, a1, a2⟩ := okE_iff.1 o1
      simp only at a0 a1 a2
      generalize l.length = L at *
      clear hr hk hD h0 h0' hL o1 hcode
      by_cases c2 : n < t + L
      · rw [if_pos c2]
        go_enter Try.func67, Try.ntmps67
        go_wp2_with fail
        obtain ⟨S, hS⟩ := start2 w (deltaO D) (cmdO 2 t 0 0 (.slice a L cap))
        rw [hS]
        clear hS
        refine (HeldW.call (s := S) (hc _)).mono ?_
        rintro e _ ⟨rfl, s1, rfl⟩
        obtain ⟨q0, q1, q2, q3, q4, q5⟩ := held_cmd s1 (w.heap.size + 1) 2 t 0 0 (.slice a L cap) (by simp)
        obtain ⟨d0, d1, d2⟩ := delta_in s1 (w.heap.size) D o n x y v HD.out (by simp)
        go_wp2_with fail
        clear q0 q1 q2 q3 q4 q5 d0 d1 d2
        refine wp_region_class _ _ (by kernel_rfl) (by kernel_rfl) (s1).below (s1).blocks (fun hne => ?_)
        obtain ⟨d0, d1, d2⟩ := delta_inA (s1) (w.heap.size) D o n x y v HD.out (by simp)
        obtain ⟨q0, q1, q2, q3, q4⟩ := held_cmdA (s1) (w.heap.size + 1) 2 t 0 0 (.slice a L cap) (by simp)
        repeat (go_big_quiet_step ((go_at_call 26; exact HeldW.call (hlen _))))
        refine wpQuiet_nil ?_
        rintro _ ⟨s5, rfl⟩
        clear hne d0 d1 d2 q0 q1 q2 q3 q4
        go_wp2_with fail
        go_ret
        exact ⟨rfl, s5.below⟩
      · rw [if_neg c2]
        go_enter Try.func67, Try.ntmps67
        go_wp2_with fail
        obtain ⟨S, hS⟩ := start2 w (deltaO D) (cmdO 2 t 0 0 (.slice a L cap))
        rw [hS]
        clear hS
        refine (HeldW.call (s := S) (hc _)).mono ?_
        rintro e _ ⟨rfl, s1, rfl⟩
        obtain ⟨q0, q1, q2, q3, q4, q5⟩ := held_cmd s1 (w.heap.size + 1) 2 t 0 0 (.slice a L cap) (by simp)
        obtain ⟨d0, d1, d2⟩ := delta_in s1 (w.heap.size) D o n x y v HD.out (by simp)
        go_wp2_with fail
        clear q0 q1 q2 q3 q4 q5 d0 d1 d2
        refine wp_region_class _ _ (by kernel_rfl) (by kernel_rfl) (s1).below (s1).blocks (fun hne => ?_)
        obtain ⟨d0, d1, d2⟩ := delta_inA (s1) (w.heap.size) D o n x y v HD.out (by simp)
        obtain ⟨q0, q1, q2, q3, q4⟩ := held_cmdA (s1) (w.heap.size + 1) 2 t 0 0 (.slice a L cap) (by simp)
        repeat (go_big_quiet_step ((go_at_call 26; exact HeldW.call (hlen _))))
        refine wpQuiet_nil ?_
        rintro _ ⟨s5, rfl⟩
        clear hne d0 d1 d2 q0 q1 q2 q3 q4
        go_wp2_with fail
        go_ret
        exact ⟨rfl, s5.below⟩

/-- The candidates of a gap; what the walk over them has found. -/
def cand (cs : List Cmd) : Nat → Int
  | 0 => 0
  | m + 1 => ((cs[m]?).map fun c => c.t + c.w).getD 0
def BadX (n : Int) (cs : List Cmd) (x : Int) : Prop := x < n ∧ ¬ Cov (cs.map Cmd.tgt) x
def GI (n : Int) (cs : List Cmd) (m : Nat) (out : Int) : Prop := (out = -1 ∧ ∀ j, j < m → ¬ BadX n cs (cand cs j)) ∨ (0 ≤ out ∧ BadX n cs out ∧ ∀ j, j < m → BadX n cs (cand cs j) → out ≤ cand cs j)
theorem GI.skip {n : Int} {cs : List Cmd} {m : Nat} {out : Int} (h : GI n cs m out) (hb : ¬ BadX n cs (cand cs m)) : GI n cs (m + 1) out := by
  rcases h with ⟨h1, h2⟩ | ⟨h1, h2, h3⟩
  · refine .inl ⟨h1, fun j hj => ?_⟩
    by_cases e : j = m
    · subst e; exact hb
    · exact h2 j (by omega)
  · refine .inr ⟨h1, h2, fun j hj hj2 => ?_⟩
    by_cases e : j = m
    · subst e; exact absurd hj2 hb
    · exact h3 j (by omega) hj2
theorem GI.more {n : Int} {cs : List Cmd} {m : Nat} {out : Int} (h : GI n cs m out) (h0 : 0 ≤ out) (hb : out ≤ cand cs m) : GI n cs (m + 1) out := by
  rcases h with ⟨h1, h2⟩ | ⟨h1, h2, h3⟩
  · omega
  · refine .inr ⟨h1, h2, fun j hj hj2 => ?_⟩
    by_cases e : j = m
    · subst e; exact hb
    · exact h3 j (by omega) hj2
theorem GI.take {n : Int} {cs : List Cmd} {m : Nat} {out : Int} (h : GI n cs m out) (hb : BadX n cs (cand cs m)) (hc : 0 ≤ cand cs m) (hle : out < 0 ∨ cand cs m < out) : GI n cs (m + 1) (cand cs m) := by
  refine .inr ⟨hc, hb, fun j hj hj2 => ?_⟩
  by_cases e : j = m
  · subst e; exact Int.le_refl _
  · rcases h with ⟨h1, h2⟩ | ⟨h1, h2, h3⟩
    · exact absurd hj2 (h2 j (by omega))
    · have := h3 j (by omega) hj2
      omega
/-- What gap returns. -/
def GapR (n : Int) (cs : List Cmd) (r : Int) : Prop := (r = -1 ∧ ∀ x, 0 ≤ x → x < n → Cov (cs.map Cmd.tgt) x) ∨ Gap n (cs.map Cmd.tgt) r
theorem GapR.unique {n : Int} {cs : List Cmd} {r r' : Int} (h : GapR n cs r) (h' : GapR n cs r') : r = r' := by
  rcases h with ⟨h1, h2⟩ | h
  · rcases h' with ⟨h3, _⟩ | h'
    · omega
    · exact absurd (h2 r' h'.lo h'.hi) h'.no
  · rcases h' with ⟨h3, h4⟩ | h'
    · exact absurd (h4 r h.lo h.hi) h.no
    · exact h.unique h'
theorem gapR_exists (n : Int) (cs : List Cmd) : ∃ r, GapR n cs r := by
  by_cases hg : ∃ x, 0 ≤ x ∧ x < n ∧ ¬ Cov (cs.map Cmd.tgt) x
  · obtain ⟨g, hg⟩ := gap_exists hg
    exact ⟨g, .inr hg⟩
  · exact ⟨-1, .inl ⟨rfl, fun x h0 h1 => Classical.byContradiction fun hc => hg ⟨x, h0, h1, hc⟩⟩⟩
noncomputable def gapOf (n : Int) (cs : List Cmd) : Int := Classical.choose (gapR_exists n cs)
theorem gapOf_spec (n : Int) (cs : List Cmd) : GapR n cs (gapOf n cs) := Classical.choose_spec (gapR_exists n cs)
theorem gapOf_eq {n : Int} {cs : List Cmd} {r : Int} (h : GapR n cs r) : gapOf n cs = r := (gapOf_spec n cs).unique h
theorem GI.final {n : Int} {cs : List Cmd} {out : Int} (h : GI n cs (cs.length + 1) out) : GapR n cs out := by
  have key : ∀ g, Gap n (cs.map Cmd.tgt) g → ∃ j, j < cs.length + 1 ∧ cand cs j = g := fun g hg => by
    rcases gap_cand hg with rfl | ⟨p, hp, rfl⟩
    · exact ⟨0, by omega, rfl⟩
    · obtain ⟨c, hc, rfl⟩ := List.mem_map.1 hp
      obtain ⟨i, hi⟩ := List.getElem?_of_mem hc
      exact ⟨i + 1, by have := (List.getElem?_eq_some_iff.1 hi).1; omega, by simp [cand, hi, Cmd.tgt]⟩
  rcases h with ⟨h1, h2⟩ | ⟨h1, h2, h3⟩
  · refine .inl ⟨h1, fun x x0 x1 => Classical.byContradiction fun hc => ?_⟩
    obtain ⟨g, hg⟩ := gap_exists ⟨x, x0, x1, hc⟩
    obtain ⟨j, hj, hjg⟩ := key g hg
    exact h2 j hj (by rw [hjg]; exact ⟨hg.hi, hg.no⟩)
  · obtain ⟨g, hg⟩ := gap_exists ⟨out, h1, h2.1, h2.2⟩
    obtain ⟨j, hj, hjg⟩ := key g hg
    have h4 := h3 j hj (by rw [hjg]; exact ⟨hg.hi, hg.no⟩)
    rw [hjg] at h4
    have h5 : ¬ out < g := fun hlt => h2.2 (hg.yes out h1 hlt)
    obtain rfl : out = g := by omega
    exact .inr hg
end Go.Proofs.Ytgmjppjgbalapaa

namespace Go.Proofs.Ytgmjppjgbalapaa
open Go.RowKit Go.Shelf Go.Proofs.Ytgmjppjgbalapaa.Plain01
set_option linter.unusedVariables false
set_option linter.unusedSimpArgs false

theorem bad_iff {n x : Int} {cs : List Cmd} : BadX n cs x ↔ x < n ∧ findOf cs x < 0 := by
  unfold BadX
  rw [cov_has, findOf_neg]
  exact ⟨fun ⟨h1, h2⟩ => ⟨h1, fun c hc hx => h2 ⟨c, hc, hx⟩⟩, fun ⟨h1, h2⟩ => ⟨h1, fun ⟨c, hc, hx⟩ => h2 c hc hx⟩⟩

set_option maxRecDepth 100000 in
set_option maxHeartbeats 8000000 in
theorem rgap_any (D : Array Value) (o n : Int) (x y : List Int) (ca : Option Addr) (cs : List Cmd) (ccap : Nat) (hD : DeltaOf D o n x y (.slice ca cs.length ccap)) (w : World) (h : CmdsIn w ca cs ccap) (hall : AllOK o n cs) (hlen : ¬ LensBad o n) :
    Calls Try.prog 69 #[.agg D] w (Gives (.int .i64 (gapOf n cs)) w) := by
  have hpost : Hid (∀ (r : Int) (s : HeldW w [(w.heap.size, deltaO D)]), GapR n cs r → Gives (.int .i64 (gapOf n cs)) w (.returned (.int .i64 r)) s.w) := Lib.hid fun r s hr => by
    rw [gapOf_eq hr]; exact ⟨rfl, s.below⟩
  have HF := Lib.hid (fun (z : Int) (s : HeldW w [(w.heap.size, deltaO D)]) => HeldW.call (rfind_any D o n x y ca cs ccap hD z s.w (h.W s) (fun c hc => (single_facts (hall c hc) hlen).1)))
  have HS := Lib.hid (fun c hc => single_facts (hall c hc) hlen)
  have hinf := infoDelta hD
  have HD := Lib.hid hD
  have HC := Lib.hid h
  obtain ⟨L, hLe⟩ : ∃ L, L = cs.length := ⟨_, rfl⟩
  have HL := Lib.hid hLe
  rw [← hLe] at HD
  have hLcap : L ≤ ccap := by rw [hLe]; exact h.len
  have hccap := h.capb
  have hnb : n ≤ 4611686018427387903 := by unfold LensBad at hlen; omega
  generalize Gives (.int .i64 (gapOf n cs)) w = POST at hpost ⊢
  clear hD h hall hlen hLe
  go_enter Try.func69, Try.ntmps69
  go_wp2
  obtain ⟨S, hS⟩ := start1 w (deltaO D)
  rw [hS]
  clear hS
  go_loopw [3, 4] (fun u v wr => ∃ (m : Nat) (i out : Int), m ≤ L + 1 ∧ Hid (i + 1 = (m : Int)) ∧ u = .int .i64 out ∧ v = .int .i64 i ∧ Hid (GI n cs m out) ∧ ∃ s : HeldW w [(w.heap.size, deltaO D)], wr = s.w) (fun _ v _ => L + 1 - (intOf v + 1).toNat)
  case atStart => exact ⟨0, -1, -1, by omega, Lib.hid rfl, rfl, rfl, Lib.hid (.inl ⟨rfl, fun j hj => by omega⟩), S, rfl⟩
  case round =>
    clear S
    obtain ⟨m, i, out, hm, him, rfl, rfl, hG, s, rfl⟩ := hrel
    obtain ⟨d0, d1, d2⟩ := delta_in s w.heap.size D o n x y (.slice ca L ccap) HD.out (by simp)
    by_cases hlt : m < L + 1
    · have hlt2 : i < (L : Int) := by have := him.out; omega
      obtain ⟨off, hoff⟩ : ∃ off, off = cand cs m := ⟨_, rfl⟩
      have hoff0 : 0 ≤ off := by
        rw [hoff]
        cases m with
        | zero => exact Int.le_refl _
        | succ m =>
          obtain ⟨c, hc⟩ : ∃ c, cs[m]? = some c := ⟨_, List.getElem?_eq_getElem (by rw [← HL.out]; omega)⟩
          have := HS.out c (List.mem_of_getElem? hc)
          simp [cand, hc]; omega
      obtain ⟨fo, hfo⟩ : ∃ fo, fo = findOf cs off := ⟨_, rfl⟩
      have HFo : Hid (∀ s : HeldW w [(w.heap.size, deltaO D)], Calls Try.prog 45 #[.agg D, .int .i64 off] s.w fun e w'' => e = .returned (.int .i64 fo) ∧ ∃ s' : HeldW w [(w.heap.size, deltaO D)], w'' = s'.w) := Lib.hid (fun s => by rw [hfo]; exact HF.out off s)
      have hbad : BadX n cs off ↔ off < n ∧ fo < 0 := by rw [hfo]; exact bad_iff
      have hcases : (¬ off < n ∧ Hid (GI n cs (m + 1) out)) ∨ (off < n ∧ ¬ fo < 0 ∧ Hid (GI n cs (m + 1) out)) ∨ (off < n ∧ fo < 0 ∧ out < 0 ∧ Hid (GI n cs (m + 1) off)) ∨ (off < n ∧ fo < 0 ∧ ¬ out < 0 ∧ off < out ∧ Hid (GI n cs (m + 1) off)) ∨ (off < n ∧ fo < 0 ∧ ¬ out < 0 ∧ ¬ off < out ∧ Hid (GI n cs (m + 1) out)) := by
        have hG' := hG.out
        by_cases c1 : off < n
        · by_cases c2 : fo < 0
          · have hb := hbad.2 ⟨c1, c2⟩
            by_cases c3 : out < 0
            · exact .inr (.inr (.inl ⟨c1, c2, c3, Lib.hid (by rw [hoff] at hb hoff0 ⊢; exact hG'.take hb hoff0 (.inl c3))⟩))
            · by_cases c4 : off < out
              · exact .inr (.inr (.inr (.inl ⟨c1, c2, c3, c4, Lib.hid (by rw [hoff] at hb hoff0 c4 ⊢; exact hG'.take hb hoff0 (.inr c4))⟩)))
              · exact .inr (.inr (.inr (.inr ⟨c1, c2, c3, c4, Lib.hid (hG'.more (by omega) (by rw [← hoff]; omega))⟩)))
          · exact .inr (.inl ⟨c1, c2, Lib.hid (hG'.skip (by rw [← hoff]; exact fun hb => c2 (hbad.1 hb).2))⟩)
        · exact .inl ⟨c1, Lib.hid (hG'.skip (by rw [← hoff]; exact fun hb => c1 (hbad.1 hb).1))⟩
      have HM := Lib.hid hlt
      clear hbad hfo hm hlt
      by_cases hm0 : m = 0
      · subst hm0
        obtain rfl : i = -1 := by have := him.out; omega
        obtain rfl : off = 0 := hoff
        have hg : s.w.heap[w.heap.size]? = some (deltaO D) := s.blocks _ List.mem_cons_self
        clear hG
        rcases hcases with ⟨c1, hT⟩ | ⟨c1, c2, hT⟩ | ⟨c1, c2, c3, hT⟩ | ⟨c1, c2, c3, c4, hT⟩ | ⟨c1, c2, c3, c4, hT⟩
        all_goals
          go_wp2_with (first
            | (refine wpList_load_rowG rfl 34 (.tmp 1) rfl (some 33) rfl w.heap.size rfl 34 _ (0, 0) _ hg Try.underlying34 rfl hinf ?_)
            | (go_at_call 45; refine (HFo.out s).mono ?_; rintro e _ ⟨rfl, s3, rfl⟩))
          go_roundw
          case rel => first | exact ⟨0 + 1, 0, out, by omega, Lib.hid rfl, rfl, by first | rfl | go_num, hT, _, rfl⟩ | exact ⟨0 + 1, 0, 0, by omega, Lib.hid rfl, rfl, by first | rfl | go_num, hT, _, rfl⟩
          case measure => simp [intOf]
      · obtain ⟨k, rfl⟩ : ∃ k, m = k + 1 := ⟨m - 1, by omega⟩
        obtain rfl : i = (k : Int) := by have := him.out; omega
        obtain ⟨c, hc⟩ : ∃ c, cs[k]? = some c := ⟨_, List.getElem?_eq_getElem (by rw [← HL.out]; have := HM.out; omega)⟩
        have hcf := HS.out c (List.mem_of_getElem? hc)
        obtain ⟨b, oo, rfl, _⟩ := HC.out.at hc
        have hrl := rlen_any c.k c.t c.f c.n c.a c.l.length c.cap
        have e1 : wlen c.k c.n c.l.length = c.w := rfl
        rw [e1] at hrl
        have hoc : off = c.t + c.w := by rw [hoff]; simp [cand, hc]
        obtain ⟨_, f0, f1, f2⟩ := hcf
        have hkL : k < L := by have := HM.out; omega
        have y0 : ∀ s : HeldW w [(w.heap.size, deltaO D)], s.w.cell? ⟨b, oo + k * 5, none⟩ = some (.int .i64 c.k) ∧ s.w.cell? ⟨b, oo + k * 5 + 1, none⟩ = some (.int .i64 c.t) ∧ s.w.cell? ⟨b, oo + k * 5 + 2, none⟩ = some (.int .i64 c.f) ∧ s.w.cell? ⟨b, oo + k * 5 + 3, none⟩ = some (.int .i64 c.n) ∧ s.w.cell? ⟨b, oo + k * 5 + 4, none⟩ = some (.slice c.a c.l.length c.cap) := fun s => by
          obtain ⟨b', o', e, h⟩ := (HC.out.W s).at hc
          simp only [Option.some.injEq, Addr.mk.injEq] at e
          obtain ⟨rfl, rfl, _⟩ := e
          exact h
        have x0 := fun s => (y0 s).1
        have x1 := fun s => (y0 s).2.1
        have x2 := fun s => (y0 s).2.2.1
        have x3 := fun s => (y0 s).2.2.2.1
        have x4 := fun s => (y0 s).2.2.2.2
        generalize c.w = W at *
        clear y0 e1 hc hoff hG hm0 hlt2
        rcases hcases with ⟨c1, hT⟩ | ⟨c1, c2, hT⟩ | ⟨c1, c2, c3, hT⟩ | ⟨c1, c2, c3, c4, hT⟩ | ⟨c1, c2, c3, c4, hT⟩
        all_goals
          have roff : c.t + W = off := hoc.symm
          have hob : off ≤ 4611686018427387903 := by omega
          clear hoc
          go_wp2_with fail
          obtain ⟨q0, q1, q2⟩ := delta_inA s w.heap.size D o n x y (.slice (some ⟨b, oo, none⟩) L ccap) HD.out (by simp)
          refine wp_region_class _ _ (by kernel_rfl) (by kernel_rfl) s.below s.blocks (fun hne => ?_)
          clear d0 d1 d2
          repeat (go_big_quiet_step ((go_at_call 26; exact HeldW.call (hrl _))))
          refine wpQuiet_nil ?_
          rintro _ ⟨s2, rfl⟩
          clear hne x0 x1 x2 x3 x4 q0 q1 q2
          have d1 := (delta_in s2 w.heap.size D o n x y (.slice (some ⟨b, oo, none⟩) L ccap) HD.out (by simp)).2.1
          have hg : s2.w.heap[w.heap.size]? = some (deltaO D) := s2.blocks _ List.mem_cons_self
          go_wp2_with (first
            | (refine wpList_load_rowG rfl 34 (.tmp 1) rfl (some 33) rfl w.heap.size rfl 34 _ (0, 0) _ hg Try.underlying34 rfl hinf ?_)
            | (go_at_call 45; refine (HFo.out s2).mono ?_; rintro e _ ⟨rfl, s3, rfl⟩))
          go_roundw
          case rel => first | exact ⟨k + 1 + 1, (k : Int) + 1, out, by have := HM.out; omega, Lib.hid (by omega), rfl, by first | rfl | go_num, hT, _, rfl⟩ | exact ⟨k + 1 + 1, (k : Int) + 1, off, by have := HM.out; omega, Lib.hid (by omega), rfl, by first | rfl | go_num, hT, _, rfl⟩
          case measure => simp [intOf]; omega
    · obtain rfl : m = L + 1 := by omega
      have hT : Hid (GapR n cs out) := Lib.hid (GI.final (by rw [← HL.out]; exact hG.out))
      obtain rfl : i = (L : Int) := by have := him.out; omega
      go_wp2
      exact hpost.out _ s hT.out
end Go.Proofs.Ytgmjppjgbalapaa

namespace Go.Proofs.Ytgmjppjgbalapaa
open Go.RowKit Go.Shelf Go.Proofs.Ytgmjppjgbalapaa.Plain01
set_option linter.unusedVariables false
set_option linter.unusedSimpArgs false

theorem load_delta {D : Array Value} {o n : Int} {x y : List Int} {v : Value} (h : DeltaOf D o n x y v) {w : World} {g : Nat} (hb : w.heap[g]? = some (deltaO D)) : (Instr.loadAt 34 (.pointer (some ⟨g, 0, none⟩))).run Try.prog w = .ok (.agg D) w := by
  simp only [Instr.loadAt, Instr.sureAddr, Sem.run_bind, Sem.run_pure, Result.andThen_ok]
  exact run_loadVar_row w g 34 34 D (0, 0) _ hb Try.underlying34 rfl (infoDelta h)

theorem ovl_off {p q : Int × Int} (hp : 1 ≤ p.2) (hq : 1 ≤ q.2) : (0 < (ovl p q).2) ↔ ¬ Off p q := by
  rw [off_iff hp hq]
  unfold ovl
  by_cases h : min (p.1 + p.2) (q.1 + q.2) ≤ max p.1 q.1
  · rw [if_pos h]; simp [h]
  · rw [if_neg h]; simp only [h, not_false_eq_true, iff_true]; omega

/-- What the reference says. -/
abbrev pairV (e a : Int) : Value := .tuple #[.int .i64 e, .int .i64 a]

set_option maxRecDepth 100000 in
set_option maxHeartbeats 8000000 in
theorem rdcheck_good (D : Array Value) (o n : Int) (x y : List Int) (ca : Option Addr) (cs : List Cmd) (ccap : Nat) (hD : DeltaOf D o n x y (.slice ca cs.length ccap)) (w : World) (h : CmdsIn w ca cs ccap) (hlen : ¬ LensBad o n) :
    Calls Try.prog 56 #[.agg D] w (Gives (pairV (faultOf o n cs).1 (faultOf o n cs).2) w) := by
  have hpost : Hid (∀ (e a : Int) (s : HeldW w [(w.heap.size, deltaO D)]), RefSpec o n cs e a → Gives (pairV (faultOf o n cs).1 (faultOf o n cs).2) w (.returned (pairV e a)) s.w) := Lib.hid fun e a s ht => by
    rw [faultOf_eq ht]
    exact ⟨rfl, s.below⟩
  have HG := Lib.hid (fun (s : HeldW w [(w.heap.size, deltaO D)]) (ha : AllOK o n cs) => HeldW.call (rgap_any D o n x y ca cs ccap hD s.w (h.W s) ha hlen))
  have hinf := infoDelta hD
  have HLD := Lib.hid (fun (s : HeldW w [(w.heap.size, deltaO D)]) => load_delta hD (s.blocks (w.heap.size, deltaO D) List.mem_cons_self))
  have HSG := Lib.hid (fun c hk => rsingle_any D o n x y _ hD c hk)
  have HD := Lib.hid hD
  have HC := Lib.hid h
  obtain ⟨L, hLe⟩ : ∃ L, L = cs.length := ⟨_, rfl⟩
  have HL := Lib.hid hLe
  rw [← hLe] at HD
  have hLcap : L ≤ ccap := by rw [hLe]; exact h.len
  have hccap := h.capb
  have HLB := Lib.hid hlen
  have hb : 0 ≤ o ∧ 0 ≤ n ∧ o ≤ 4611686018427387903 ∧ n ≤ 4611686018427387903 := by unfold LensBad at hlen; omega
  obtain ⟨b0, b1, b2, b3⟩ := hb
  have hmx := fun w => gives_same (rmax_any w)
  generalize Gives (pairV (faultOf o n cs).1 (faultOf o n cs).2) w = POST at hpost ⊢
  clear hD h hLe hlen
  have e0 : decide (o < 0) = false := by simp; omega
  have e1 : decide (n < 0) = false := by simp; omega
  have e2 : decide (4611686018427387903 < o) = false := by simp; omega
  have e3 : decide (4611686018427387903 < n) = false := by simp; omega
  go_enter Try.func56, Try.ntmps56
  go_wp2_with fail
  obtain ⟨S, hS⟩ := start1 w (deltaO D)
  rw [hS]
  clear hS
  refine wp_region_class _ _ (by kernel_rfl) (by kernel_rfl) (S).below (S).blocks (fun hne => ?_)
  obtain ⟨d0, d1, d2⟩ := delta_inA (S) (w.heap.size) D o n x y (.slice ca L ccap) HD.out (by simp)
  repeat (go_big_quiet_step ((go_at_call 51; exact HeldW.call (hmx _))))
  refine wpQuiet_nil ?_
  rintro _ ⟨s1, rfl⟩
  clear hne d0 d1 d2
  go_wp2_with fail
  clear S
  go_loopw [4] (fun v wr => ∃ k : Nat, k ≤ L ∧ v = .int .i64 k ∧ Hid (∀ (j : Nat) (c : Cmd), j < k → cs[j]? = some c → single o n c = 0) ∧ ∃ s : HeldW w [(w.heap.size, deltaO D)], wr = s.w) (fun v _ => L - (intOf v).toNat)
  case atStart => exact ⟨0, by omega, rfl, Lib.hid (fun j c hj => by omega), s1, rfl⟩
  case round =>
    clear s1
    obtain ⟨k, hk, rfl, hf, s, rfl⟩ := hrel
    by_cases hlt : k < L
    · have d2 := (delta_in s w.heap.size D o n x y (.slice ca L ccap) HD.out (by simp)).2.2
      obtain ⟨c, hc⟩ : ∃ c, cs[k]? = some c := ⟨_, List.getElem?_eq_getElem (by rw [← HL.out]; exact hlt)⟩
      have hok := HC.out.ok c (List.mem_of_getElem? hc)
      have hsg := HSG.out c ⟨hok.t, hok.f, hok.n, i64_len (a := c.a) hok.b.len hok.b.capb⟩
      obtain ⟨b, oo, rfl, _⟩ := HC.out.at hc
      have y0 : ∀ s : HeldW w [(w.heap.size, deltaO D)], s.w.cell? ⟨b, oo + k * 5, none⟩ = some (.int .i64 c.k) ∧ s.w.cell? ⟨b, oo + k * 5 + 1, none⟩ = some (.int .i64 c.t) ∧ s.w.cell? ⟨b, oo + k * 5 + 2, none⟩ = some (.int .i64 c.f) ∧ s.w.cell? ⟨b, oo + k * 5 + 3, none⟩ = some (.int .i64 c.n) ∧ s.w.cell? ⟨b, oo + k * 5 + 4, none⟩ = some (.slice c.a c.l.length c.cap) := fun s => by
        obtain ⟨b', o', e, h⟩ := (HC.out.W s).at hc
        simp only [Option.some.injEq, Addr.mk.injEq] at e
        obtain ⟨rfl, rfl, _⟩ := e
        exact h
      have x0 := fun s => (y0 s).1
      have x1 := fun s => (y0 s).2.1
      have x2 := fun s => (y0 s).2.2.1
      have x3 := fun s => (y0 s).2.2.2.1
      have x4 := fun s => (y0 s).2.2.2.2
      have HCC := Lib.hid hc
      have hld := HLD.out
      clear y0 hok hc
      by_cases h0 : single o n c = 0
      · have hstep : Hid (∀ (j : Nat) (c' : Cmd), j < k + 1 → cs[j]? = some c' → single o n c' = 0) := Lib.hid fun j c' hj hc' => by
          by_cases e : j = k
          · subst e; rw [HCC.out] at hc'; cases hc'; exact h0
          · exact hf.out j c' (by omega) hc'
        rw [h0] at hsg
        clear h0
        go_wp2_with fail
        obtain ⟨q0, q1, q2⟩ := delta_inA s w.heap.size D o n x y (.slice (some ⟨b, oo, none⟩) L ccap) HD.out (by simp)
        refine wp_region_class _ _ (by kernel_rfl) (by kernel_rfl) s.below s.blocks (fun hne => ?_)
        clear d2 q0 q1
        repeat (first | (refine quiet_load 34 (.tmp 1) (.agg D) s.w ⟨s, rfl⟩ (by rintro _ ⟨s, rfl⟩; exact hld s) ?_; go_big_quiet_step (fail)) | go_big_quiet_step ((go_at_call 67; exact HeldW.call (hsg _))))
        refine wpQuiet_nil ?_
        rintro _ ⟨s2, rfl⟩
        clear hne x0 x1 x2 x3 x4 q2
        go_wp2
        go_roundw
        case rel => exact ⟨k + 1, by omega, by go_num, hstep, s2, rfl⟩
        case measure => simp [intOf]; omega
      · have hT : Hid (RefSpec o n cs (single o n c) k) := Lib.hid (.inr (.inl ⟨HLB.out, k, c, HCC.out, h0, hf.out, rfl, rfl⟩))
        generalize single o n c = e0 at *
        have h1 : (e0 != 0) = true := by simpa using h0
        clear h0
        go_wp2_with fail
        obtain ⟨q0, q1, q2⟩ := delta_inA s w.heap.size D o n x y (.slice (some ⟨b, oo, none⟩) L ccap) HD.out (by simp)
        refine wp_region_class _ _ (by kernel_rfl) (by kernel_rfl) s.below s.blocks (fun hne => ?_)
        clear d2 q0 q1
        repeat (first | (refine quiet_load 34 (.tmp 1) (.agg D) s.w ⟨s, rfl⟩ (by rintro _ ⟨s, rfl⟩; exact hld s) ?_; go_big_quiet_step (fail)) | go_big_quiet_step ((go_at_call 67; exact HeldW.call (hsg _))))
        refine wpQuiet_nil ?_
        rintro _ ⟨s2, rfl⟩
        clear hne x0 x1 x2 x3 x4 q2
        go_wp2
        exact hpost.out _ _ s2 hT.out
    · obtain rfl : k = L := by omega
      have hall : AllOK o n cs := fun c hc => by
        obtain ⟨j, hj⟩ := List.getElem?_of_mem hc
        exact hf.out j c (by rw [HL.out]; exact (List.getElem?_eq_some_iff.1 hj).1) hj
      have HA := Lib.hid hall
      have d2 := (delta_in s w.heap.size D o n x y (.slice ca k ccap) HD.out (by simp)).2.2
      clear hall hlt hf hk
      go_wp2
      clear d2
      go_loopw [6] (fun v wr => ∃ i : Nat, i ≤ k ∧ v = .int .i64 i ∧ Hid (∀ j, j < i → ¬ Over cs j) ∧ ∃ s : HeldW w [(w.heap.size, deltaO D)], wr = s.w) (fun v _ => k - (intOf v).toNat)
      case atStart => exact ⟨0, by omega, rfl, Lib.hid (fun j hj => by omega), s, rfl⟩
      case round =>
        clear s
        obtain ⟨i, hi, rfl, hno, s, rfl⟩ := hrel
        have d2 := (delta_in s w.heap.size D o n x y (.slice ca k ccap) HD.out (by simp)).2.2
        by_cases hlt : i < k
        · obtain ⟨ci, hci⟩ : ∃ c, cs[i]? = some c := ⟨_, List.getElem?_eq_getElem (by rw [← HL.out]; exact hlt)⟩
          have HCI := Lib.hid hci
          clear hci
          go_wp2
          clear d2
          go_loopw [7] (fun v wr => ∃ j : Nat, j ≤ i ∧ v = .int .i64 j ∧ Hid (∀ (j' : Nat) (d : Cmd), j' < j → cs[j']? = some d → Off ci.tgt d.tgt) ∧ ∃ s : HeldW w [(w.heap.size, deltaO D)], wr = s.w) (fun v _ => i - (intOf v).toNat)
          case atStart => exact ⟨0, by omega, rfl, Lib.hid (fun j d hj => by omega), s, rfl⟩
          case round =>
            clear s
            obtain ⟨j, hj, rfl, hoff, s, rfl⟩ := hrel
            have d2 := (delta_in s w.heap.size D o n x y (.slice ca k ccap) HD.out (by simp)).2.2
            by_cases hjlt : j < i
            · obtain ⟨cj, hcj⟩ : ∃ c, cs[j]? = some c := ⟨_, List.getElem?_eq_getElem (by rw [← HL.out]; omega)⟩
              have HCJ := Lib.hid hcj
              obtain ⟨b, oo, rfl, _⟩ := HC.out.at hcj
              have yy : ∀ (s : HeldW w [(w.heap.size, deltaO D)]) (z : Nat) (c : Cmd), cs[z]? = some c → s.w.cell? ⟨b, oo + z * 5, none⟩ = some (.int .i64 c.k) ∧ s.w.cell? ⟨b, oo + z * 5 + 1, none⟩ = some (.int .i64 c.t) ∧ s.w.cell? ⟨b, oo + z * 5 + 2, none⟩ = some (.int .i64 c.f) ∧ s.w.cell? ⟨b, oo + z * 5 + 3, none⟩ = some (.int .i64 c.n) ∧ s.w.cell? ⟨b, oo + z * 5 + 4, none⟩ = some (.slice c.a c.l.length c.cap) := fun s z c hc => by
                obtain ⟨b', o', e, h⟩ := (HC.out.W s).at hc
                simp only [Option.some.injEq, Addr.mk.injEq] at e
                obtain ⟨rfl, rfl, _⟩ := e
                exact h
              have yi := fun s => yy s i ci HCI.out
              have yj := fun s => yy s j cj HCJ.out
              have x0 := fun s => (yi s).1
              have x1 := fun s => (yi s).2.1
              have x2 := fun s => (yi s).2.2.1
              have x3 := fun s => (yi s).2.2.2.1
              have x4 := fun s => (yi s).2.2.2.2
              have z0 := fun s => (yj s).1
              have z1 := fun s => (yj s).2.1
              have z2 := fun s => (yj s).2.2.1
              have z3 := fun s => (yj s).2.2.2.1
              have z4 := fun s => (yj s).2.2.2.2
              have fi := single_facts (HA.out ci (List.mem_of_getElem? HCI.out)) HLB.out
              have fj := single_facts (HA.out cj (List.mem_of_getElem? HCJ.out)) HLB.out
              have hti := rtarget_any ci.k ci.t ci.f ci.n ci.a ci.l.length ci.cap
              have htj := rtarget_any cj.k cj.t cj.f cj.n cj.a cj.l.length cj.cap
              have ei : extV (ci.t, wlen ci.k ci.n ci.l.length) = extV ci.tgt := rfl
              have ej : extV (cj.t, wlen cj.k cj.n cj.l.length) = extV cj.tgt := rfl
              rw [ei] at hti
              rw [ej] at htj
              have hov := roverlap_gives ci.tgt cj.tgt fi.1 fj.1
              have hoi := ovl_off (p := ci.tgt) (q := cj.tgt) fi.2.2.1 fj.2.2.1
              have HII := Lib.hid hoi
              generalize ovl ci.tgt cj.tgt = q at hov hoi HII
              generalize extV ci.tgt = vi at hti hov
              generalize extV cj.tgt = vj at htj hov
              have hfl := ext_len q.1 q.2
              have hik : i < k := hlt
              have hjk : j < k := by omega
              clear yy yi yj hcj ei ej fi fj hoi
              by_cases hq : 0 < q.2
              · have hT : Hid (RefSpec o n cs 4 i) := Lib.hid (.inr (.inr (.inl ⟨HLB.out, HA.out, i, ⟨j, ci, cj, hjlt, HCI.out, HCJ.out, HII.out.1 hq⟩, hno.out, rfl, rfl⟩)))
                go_wp2_with fail
                obtain ⟨q0, q1, q2⟩ := delta_inA s w.heap.size D o n x y (.slice (some ⟨b, oo, none⟩) k ccap) HD.out (by simp)
                refine wp_region_class _ _ (by kernel_rfl) (by kernel_rfl) s.below s.blocks (fun hne => ?_)
                clear d2 q0 q1
                repeat (go_big_quiet_step (first | (go_at_call_of 28 ci; exact HeldW.call (hti _)) | (go_at_call_of 28 cj; exact HeldW.call (htj _)) | (go_at_call 68; exact HeldW.call (hov _))))
                refine wpQuiet_nil ?_
                rintro _ ⟨s2, rfl⟩
                clear hne x0 x1 x2 x3 x4 z0 z1 z2 z3 z4 q2
                go_wp2
                exact hpost.out _ _ s2 hT.out
              · have hstep : Hid (∀ (j' : Nat) (d : Cmd), j' < j + 1 → cs[j']? = some d → Off ci.tgt d.tgt) := Lib.hid fun j' d hj' hd => by
                  by_cases e : j' = j
                  · subst e
                    rw [HCJ.out] at hd
                    cases hd
                    exact Classical.byContradiction fun hn => hq (HII.out.2 hn)
                  · exact hoff.out j' d (by omega) hd
                go_wp2_with fail
                obtain ⟨q0, q1, q2⟩ := delta_inA s w.heap.size D o n x y (.slice (some ⟨b, oo, none⟩) k ccap) HD.out (by simp)
                refine wp_region_class _ _ (by kernel_rfl) (by kernel_rfl) s.below s.blocks (fun hne => ?_)
                clear d2 q0 q1
                repeat (go_big_quiet_step (first | (go_at_call_of 28 ci; exact HeldW.call (hti _)) | (go_at_call_of 28 cj; exact HeldW.call (htj _)) | (go_at_call 68; exact HeldW.call (hov _))))
                refine wpQuiet_nil ?_
                rintro _ ⟨s2, rfl⟩
                clear hne x0 x1 x2 x3 x4 z0 z1 z2 z3 z4 q2
                go_wp2
                go_roundw
                case rel => exact ⟨j + 1, by omega, by go_num, hstep, s2, rfl⟩
                case measure => simp [intOf]; omega
            · obtain rfl : j = i := by omega
              have hstep : Hid (∀ j', j' < j + 1 → ¬ Over cs j') := Lib.hid fun j' hj' => by
                by_cases e : j' = j
                · subst e
                  intro ⟨q, a, b, hq, ha, hb, hn⟩
                  rw [HCI.out] at ha
                  cases ha
                  exact hn (hoff.out q b hq hb)
                · exact hno.out j' (by omega)
              clear d2
              go_wp2
              go_roundw
              case rel => exact ⟨j + 1, by omega, by go_num, hstep, s, rfl⟩
              case measure => simp [intOf]; omega
        · obtain rfl : i = k := by omega
          have hno2 : ∀ j, ¬ Over cs j := fun j hj => by
            exact hno.out j (by rw [HL.out]; exact over_lt hj) hj
          have HN := Lib.hid hno2
          have hg : s.w.heap[w.heap.size]? = some (deltaO D) := s.blocks _ List.mem_cons_self
          have hgp := HG.out s HA.out
          have HGS := Lib.hid (gapOf_spec n cs)
          generalize gapOf n cs = gg at hgp HGS
          clear hno2 hlt
          by_cases hg0 : 0 ≤ gg
          · have hT : Hid (RefSpec o n cs 3 gg) := Lib.hid (by
              rcases HGS.out with ⟨h1, _⟩ | h1
              · omega
              · exact .inr (.inr (.inr (.inl ⟨HLB.out, HA.out, HN.out, gg, h1, rfl, rfl⟩))))
            go_wp2_with (refine wpList_load_row rfl 34 (.tmp 1) rfl w.heap.size rfl 34 _ (0, 0) _ hg Try.underlying34 rfl hinf ?_)
            clear d2 hg
            refine hgp.mono ?_
            rintro e _ ⟨rfl, s2, rfl⟩
            go_wp2
            exact hpost.out _ _ s2 hT.out
          · have hT : Hid (RefSpec o n cs 0 0) := Lib.hid (by
              rcases HGS.out with ⟨_, h1⟩ | h1
              · exact .inr (.inr (.inr (.inr ⟨HLB.out, HA.out, HN.out, h1, rfl, rfl⟩)))
              · exact absurd h1.lo hg0)
            go_wp2_with (refine wpList_load_row rfl 34 (.tmp 1) rfl w.heap.size rfl 34 _ (0, 0) _ hg Try.underlying34 rfl hinf ?_)
            clear d2 hg
            refine hgp.mono ?_
            rintro e _ ⟨rfl, s2, rfl⟩
            go_wp2
            exact hpost.out _ _ s2 hT.out

set_option maxRecDepth 100000 in
set_option maxHeartbeats 4000000 in
theorem rdcheck_bad (D : Array Value) (o n : Int) (x y : List Int) (v : Value) (cs : List Cmd) (hD : DeltaOf D o n x y v) (w : World) (hlen : LensBad o n) :
    Calls Try.prog 56 #[.agg D] w (Gives (pairV (faultOf o n cs).1 (faultOf o n cs).2) w) := by
  rw [faultOf_eq (.inl ⟨hlen, rfl, rfl⟩)]
  have HD := Lib.hid hD
  have hmx := fun w => gives_same (rmax_any w)
  have hcase : decide (o < 0) = true ∨ (decide (o < 0) = false ∧ decide (n < 0) = true) ∨ (decide (o < 0) = false ∧ decide (n < 0) = false ∧ decide (4611686018427387903 < o) = true) ∨ (decide (o < 0) = false ∧ decide (n < 0) = false ∧ decide (4611686018427387903 < o) = false ∧ decide (4611686018427387903 < n) = true) := by
    unfold LensBad at hlen
    simp only [decide_eq_true_eq, decide_eq_false_iff_not]
    omega
  clear hD hlen
  rcases hcase with e0 | ⟨e0, e1⟩ | ⟨e0, e1, e2⟩ | ⟨e0, e1, e2, e3⟩
  all_goals
    go_enter Try.func56, Try.ntmps56
    go_wp2_with fail
    obtain ⟨S, hS⟩ := start1 w (deltaO D)
    rw [hS]
    clear hS
    refine wp_region_class _ _ (by kernel_rfl) (by kernel_rfl) (S).below (S).blocks (fun hne => ?_)
    obtain ⟨d0, d1, d2⟩ := delta_inA (S) (w.heap.size) D o n x y v HD.out (by simp)
    repeat (go_big_quiet_step ((go_at_call 51; exact HeldW.call (hmx _))))
    refine wpQuiet_nil ?_
    rintro _ ⟨s1, rfl⟩
    clear hne d0 d1 d2
    go_wp2_with fail
    refine bodyPost_ret (v := pairV 2 (-1)) (by simp [results, Try.results56, go_sem]) rfl ⟨rfl, s1.below⟩

theorem rdcheck_any (D : Array Value) (o n : Int) (x y : List Int) (ca : Option Addr) (cs : List Cmd) (ccap : Nat) (hD : DeltaOf D o n x y (.slice ca cs.length ccap)) (w : World) (h : CmdsIn w ca cs ccap) :
    Calls Try.prog 56 #[.agg D] w (Gives (pairV (faultOf o n cs).1 (faultOf o n cs).2) w) := by
  by_cases hl : LensBad o n
  · exact rdcheck_bad D o n x y _ cs hD w hl
  · exact rdcheck_good D o n x y ca cs ccap hD w h hl

set_option maxRecDepth 100000 in
set_option maxHeartbeats 4000000 in
theorem rdvalid_any (D : Array Value) (o n : Int) (x y : List Int) (ca : Option Addr) (cs : List Cmd) (ccap : Nat) (hD : DeltaOf D o n x y (.slice ca cs.length ccap)) (w : World) (h : CmdsIn w ca cs ccap) :
    Calls Try.prog 35 #[.agg D] w (Gives (.bool (decide ((faultOf o n cs).1 = 0))) w) := by
  obtain ⟨S, hS⟩ := start1 w (deltaO D)
  have hc := rdcheck_any D o n x y ca cs ccap hD S.w (h.W S)
  have hinf := infoDelta hD
  generalize faultOf o n cs = F at hc ⊢
  obtain ⟨e, a⟩ := F
  simp only at hc ⊢
  have hg : (w.alloc (deltaO D)).heap[w.heap.size]? = some (deltaO D) := heap_new w _ rfl
  have HS := Lib.hid hS
  clear hD h hS
  go_enter Try.func35, Try.ntmps35
  go_wp2_with (refine wpList_load_row rfl 34 (.tmp 1) rfl w.heap.size rfl 34 _ (0, 0) _ hg Try.underlying34 rfl hinf ?_)
  rw [HS.out]
  clear hg
  refine (HeldW.call hc).mono ?_
  rintro e _ ⟨rfl, s2, rfl⟩
  go_wp2
  go_ret
  exact ⟨by simp; rfl, s2.below⟩
end Go.Proofs.Ytgmjppjgbalapaa
