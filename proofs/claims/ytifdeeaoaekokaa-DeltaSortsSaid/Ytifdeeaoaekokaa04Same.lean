/- Same of package command and of its reference; bytes.Equal; Copy. -/
import Derived.Test.Ytifdeeaoaekokaa00Str
import Derived.Test.Ytifdeeaoaekokaa04Cmd
namespace Go.Proofs.Ytifdeeaoaekokaa
open Go.RowKit Go.Shelf Go.Proofs.Ytifdeeaoaekokaa.Plain01
set_option linter.unusedVariables false

/-- Two commands have the same fields. -/
def sameB (k t f n : Int) (l : List Int) (k' t' f' n' : Int) (m : List Int) : Bool := decide (k = k' ∧ t = t' ∧ f = f' ∧ n = n' ∧ l = m)
theorem sameB_refl (k t f n : Int) (l : List Int) : sameB k t f n l k t f n l = true := by simp [sameB]

set_option maxRecDepth 100000 in
theorem bequal_any (l m : List Int) (a b : Option Addr) (cap cap' : Nat) (w : World) (hl : BytesIn w a l cap) (hm : BytesIn w b m cap') (okl : OkB l) (okm : OkB m) :
    Calls Try.prog 60 #[.slice a l.length cap, .slice b m.length cap'] w (Gives (.bool (decide (l = m))) w) := by
  have h1 := conv_str hl
  have h2 := conv_str hm
  have he := str_eq okl okm
  generalize decide (l = m) = d at he ⊢
  generalize strOf l = x at h1 he
  generalize strOf m = y at h2 he
  have HE := Lib.hid he
  clear hl hm okl okm he
  go_enter Try.func60, Try.ntmps60
  go_wp2
  go_ret
  exact ⟨by (rw [HE.out]; rfl), Below.refl _ w⟩

set_option maxRecDepth 100000 in
set_option maxHeartbeats 4000000 in
theorem rsame_core (k t f n k' t' f' n' : Int) (l m : List Int) (a b : Option Addr) (cap cap' : Nat) (w : World) (hl : BytesIn w a l cap) (hm : BytesIn w b m cap') (hst : ((strOf l).toList == (strOf m).toList) = decide (l = m)) :
    Calls Try.prog 45 #[cmdV k t f n (.slice a l.length cap), cmdV k' t' f' n' (.slice b m.length cap')] w (Gives (.bool (sameB k t f n l k' t' f' n' m)) w) := by
  have hB := below2 w (cmdO k t f n (.slice a l.length cap)) (cmdO k' t' f' n' (.slice b m.length cap'))
  by_cases c1 : k = k'
  · by_cases c2 : t = t'
    · by_cases c3 : f = f'
      · by_cases c4 : n = n'
        · have hr : sameB k t f n l k' t' f' n' m = decide (l = m) := by simp [sameB, c1, c2, c3, c4]
          rw [hr]
          subst c1 c2 c3 c4
          have h1 := conv_str (hl.below hB)
          have h2 := conv_str (hm.below hB)
          have he := hst
          generalize decide (l = m) = d at he ⊢
          generalize strOf l = x at h1 he
          generalize strOf m = y at h2 he
          generalize l.length = L at h1 h2 hB ⊢
          generalize m.length = M at h1 h2 hB ⊢
          have HE := Lib.hid he
          have HB := Lib.hid hB
          clear hl hm hst he hr hB
          go_enter Try.func45, Try.ntmps45
          go_wp2
          go_ret
          exact ⟨by (rw [HE.out]; rfl), HB.out⟩
        · have hr : sameB k t f n l k' t' f' n' m = false := by simp [sameB, c4]
          rw [hr]
          have e4 : (n == n') = false := by simpa using c4
          subst c1 c2 c3
          generalize l.length = L at hB ⊢
          generalize m.length = M at hB ⊢
          have HB := Lib.hid hB
          clear hl hm hst hr hB c4
          go_enter Try.func45, Try.ntmps45
          go_wp2
          go_ret
          exact ⟨rfl, HB.out⟩
      · have hr : sameB k t f n l k' t' f' n' m = false := by simp [sameB, c3]
        rw [hr]
        have e3 : (f == f') = false := by simpa using c3
        subst c1 c2
        generalize l.length = L at hB ⊢
        generalize m.length = M at hB ⊢
        have HB := Lib.hid hB
        clear hl hm hst hr hB c3
        go_enter Try.func45, Try.ntmps45
        go_wp2
        go_ret
        exact ⟨rfl, HB.out⟩
    · have hr : sameB k t f n l k' t' f' n' m = false := by simp [sameB, c2]
      rw [hr]
      have e2 : (t == t') = false := by simpa using c2
      subst c1
      generalize l.length = L at hB ⊢
      generalize m.length = M at hB ⊢
      have HB := Lib.hid hB
      clear hl hm hst hr hB c2
      go_enter Try.func45, Try.ntmps45
      go_wp2
      go_ret
      exact ⟨rfl, HB.out⟩
  · have hr : sameB k t f n l k' t' f' n' m = false := by simp [sameB, c1]
    rw [hr]
    have e1 : (k == k') = false := by simpa using c1
    generalize l.length = L at hB ⊢
    generalize m.length = M at hB ⊢
    have HB := Lib.hid hB
    clear hl hm hst hr hB c1
    go_enter Try.func45, Try.ntmps45
    go_wp2
    go_ret
    exact ⟨rfl, HB.out⟩
theorem rsame_any (k t f n k' t' f' n' : Int) (l m : List Int) (a b : Option Addr) (cap cap' : Nat) (w : World) (hl : BytesIn w a l cap) (hm : BytesIn w b m cap') (okl : OkB l) (okm : OkB m) :
    Calls Try.prog 45 #[cmdV k t f n (.slice a l.length cap), cmdV k' t' f' n' (.slice b m.length cap')] w (Gives (.bool (sameB k t f n l k' t' f' n' m)) w) :=
  rsame_core k t f n k' t' f' n' l m a b cap cap' w hl hm (str_eq okl okm)
theorem rsame_refl (k t f n : Int) (l : List Int) (a b : Option Addr) (cap cap' : Nat) (w : World) (hl : BytesIn w a l cap) (hm : BytesIn w b l cap') :
    Calls Try.prog 45 #[cmdV k t f n (.slice a l.length cap), cmdV k t f n (.slice b l.length cap')] w (Gives (.bool true) w) := by
  have h := rsame_core k t f n k t f n l l a b cap cap' w hl hm (by simp)
  rwa [sameB_refl] at h

set_option maxRecDepth 100000 in
set_option maxHeartbeats 4000000 in
theorem msame_any (k t f n k' t' f' n' : Int) (l m : List Int) (a b : Option Addr) (cap cap' : Nat) (w : World) (hl : BytesIn w a l cap) (hm : BytesIn w b m cap') (okl : OkB l) (okm : OkB m) :
    Calls Try.prog 44 #[cmdV k t f n (.slice a l.length cap), cmdV k' t' f' n' (.slice b m.length cap')] w (Gives (.bool (sameB k t f n l k' t' f' n' m)) w) := by
  have hB := below2 w (cmdO k t f n (.slice a l.length cap)) (cmdO k' t' f' n' (.slice b m.length cap'))
  by_cases c1 : k = k'
  · by_cases c2 : t = t'
    · by_cases c3 : f = f'
      · by_cases c4 : n = n'
        · have hr : sameB k t f n l k' t' f' n' m = decide (l = m) := by simp [sameB, c1, c2, c3, c4]
          rw [hr]
          subst c1 c2 c3 c4
          have he : Calls Try.prog 60 #[.slice a l.length cap, .slice b m.length cap'] ((w.alloc (cmdO k t f n (.slice a l.length cap))).alloc (cmdO k t f n (.slice b m.length cap'))) (Gives (.bool (decide (l = m))) ((w.alloc (cmdO k t f n (.slice a l.length cap))).alloc (cmdO k t f n (.slice b m.length cap')))) :=
            bequal_any l m a b cap cap' _ (hl.below hB) (hm.below hB) okl okm
          generalize decide (l = m) = d at he ⊢
          generalize l.length = L at he hB ⊢
          generalize m.length = M at he hB ⊢
          clear hl hm okl okm hr hB
          go_enter Try.func44, Try.ntmps44
          go_wp2_with fail
          refine (HeldW.call (s := ((HeldW.start w).push (cmdO k t f n (.slice a L cap))).push (cmdO k t f n (.slice b M cap'))) (he)).mono ?_
          rintro e _ ⟨rfl, s1, rfl⟩
          go_wp2_with fail
          go_wp2
          go_ret
          exact ⟨rfl, s1.below⟩
        · have hr : sameB k t f n l k' t' f' n' m = false := by simp [sameB, c4]
          rw [hr]
          have e4 : (n == n') = false := by simpa using c4
          subst c1 c2 c3
          generalize l.length = L at hB ⊢
          generalize m.length = M at hB ⊢
          have HB := Lib.hid hB
          clear hl hm okl okm hr hB c4
          go_enter Try.func44, Try.ntmps44
          go_wp2
          go_ret
          exact ⟨rfl, HB.out⟩
      · have hr : sameB k t f n l k' t' f' n' m = false := by simp [sameB, c3]
        rw [hr]
        have e3 : (f == f') = false := by simpa using c3
        subst c1 c2
        generalize l.length = L at hB ⊢
        generalize m.length = M at hB ⊢
        have HB := Lib.hid hB
        clear hl hm okl okm hr hB c3
        go_enter Try.func44, Try.ntmps44
        go_wp2
        go_ret
        exact ⟨rfl, HB.out⟩
    · have hr : sameB k t f n l k' t' f' n' m = false := by simp [sameB, c2]
      rw [hr]
      have e2 : (t == t') = false := by simpa using c2
      subst c1
      generalize l.length = L at hB ⊢
      generalize m.length = M at hB ⊢
      have HB := Lib.hid hB
      clear hl hm okl okm hr hB c2
      go_enter Try.func44, Try.ntmps44
      go_wp2
      go_ret
      exact ⟨rfl, HB.out⟩
  · have hr : sameB k t f n l k' t' f' n' m = false := by simp [sameB, c1]
    rw [hr]
    have e1 : (k == k') = false := by simpa using c1
    generalize l.length = L at hB ⊢
    generalize m.length = M at hB ⊢
    have HB := Lib.hid hB
    clear hl hm okl okm hr hB c1
    go_enter Try.func44, Try.ntmps44
    go_wp2
    go_ret
    exact ⟨rfl, HB.out⟩
end Go.Proofs.Ytifdeeaoaekokaa
