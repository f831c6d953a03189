/- ShaClones returns true for all bytes, and changes nothing that was there. -/
import Derived.Test.YtnpcocjjmajifaaDoor02Eq
namespace Go.Proofs.YtnpcocjjmajifaaDoor
open Go.RowKit
set_option linter.unusedVariables false

theorem HeldW.src {w : World} {a : Option Addr} {l : List Int} {cap g : Nat} (h : BytesIn w a l cap) (hg : w.heap.size ≤ g) {bs : List (Nat × Obj)} (s : HeldW w bs) : Src s.w g a l := (h.src hg).below s.below

theorem clones_big (a b c : Option Addr) (la lb lc : List Int) (ca cb cc : Nat) (w : World) (hR : Roots w) (hbig : 200 < la.length ∨ 200 < lb.length ∨ 200 < lc.length) (ha : la.length ≤ 9223372036854775807) (hb : lb.length ≤ 9223372036854775807) (hc : lc.length ≤ 9223372036854775807) :
    Calls Tryd.prog 6 #[.slice a la.length ca, .slice b lb.length cb, .slice c lc.length cc] w (Gives (.bool true) w) := by
  have hal := alive_any w hR
  clear hR
  by_cases h1 : 200 < la.length
  · have d1 : decide ((200 : Int) < la.length) = true := by simp; omega
    clear hbig
    go_enter Tryd.func6, Tryd.ntmps6
    go_wp2_with fail
    refine (HeldW.call (s := HeldW.start w) hal).mono ?_
    rintro e _ ⟨rfl, s1, rfl⟩
    clear hal
    go_wp2
    go_ret
    exact ⟨rfl, s1.below⟩
  · have d1 : decide ((200 : Int) < la.length) = false := by simp; omega
    by_cases h2 : 200 < lb.length
    · have d2 : decide ((200 : Int) < lb.length) = true := by simp; omega
      clear hbig
      go_enter Tryd.func6, Tryd.ntmps6
      go_wp2_with fail
      refine (HeldW.call (s := HeldW.start w) hal).mono ?_
      rintro e _ ⟨rfl, s1, rfl⟩
      clear hal
      go_wp2
      go_ret
      exact ⟨rfl, s1.below⟩
    · have d2 : decide ((200 : Int) < lb.length) = false := by simp; omega
      have d3 : decide ((200 : Int) < lc.length) = true := by simp; omega
      clear hbig
      go_enter Tryd.func6, Tryd.ntmps6
      go_wp2_with fail
      refine (HeldW.call (s := HeldW.start w) hal).mono ?_
      rintro e _ ⟨rfl, s1, rfl⟩
      clear hal
      go_wp2
      go_ret
      exact ⟨rfl, s1.below⟩

/-- Write of one part that lies in a new block. -/
theorem write1 {w : World} {bs : List (Nat × Obj)} {g P : Nat} {o : Obj} {m l : List Int} {a : Option Addr} {cap : Nat} (s : HeldW w ((P, .cells #[.slice a l.length cap] 22 (0, 0)) :: (g, o) :: bs)) (hR : Hid (Roots w)) (hi : Hid (Inv m o)) (hg : w.heap.size ≤ g) (hP : P ≠ g)
    (hne : ∀ p ∈ bs, p.1 ≠ g) (hs : Src s.w g a l) (hcap : l.length ≤ cap) (hcap2 : cap ≤ 9223372036854775807) (hm : m.length + l.length < 1000000) :
    Calls Tryd.prog 13 #[.pointer (some ⟨g, 0, none⟩), .slice (some ⟨P, 0, none⟩) 1 1] s.w fun e w'' => e = .returned (.int .i64 l.length) ∧ ∃ o', Hid (Inv (m ++ l) o') ∧ ∃ s' : HeldW w ((g, o') :: bs), w'' = s'.w := by
  have hw := write_any g m [l] o (some ⟨P, 0, none⟩) 1 s.w hi.out (s.blocks (g, o) (List.mem_cons_of_mem _ List.mem_cons_self)) (by have := hR.out.pos; omega) (hR.out.W s) (parts1 (s.blocks (_, _) List.mem_cons_self) hP hcap hcap2 hs) (by simp) (by simp; omega)
  rw [show ([l] : List (List Int)).flatten = l by simp] at hw
  exact HeldW.takes (s := s.sub (bs' := (g, o) :: bs) (fun p hp => List.mem_cons_of_mem _ hp)) hw hg hne

/-- Of of two parts that lie in a new block. -/
theorem of2 {w : World} {bs : List (Nat × Obj)} {l l' : List Int} {a a' : Option Addr} {cap cap' : Nat} (s : HeldW w bs) (hR : Hid (Roots w)) (hs : ∀ {g : Nat}, w.heap.size ≤ g → ∀ {bs : List (Nat × Obj)} (s : HeldW w bs), Src s.w g a l) (hcap : l.length ≤ cap) (hcap2 : cap ≤ 9223372036854775807)
    (hs' : ∀ {g : Nat}, w.heap.size ≤ g → ∀ {bs : List (Nat × Obj)} (s : HeldW w bs), Src s.w g a' l') (hcap' : l'.length ≤ cap') (hcap2' : cap' ≤ 9223372036854775807) (hm : l.length + l'.length < 1000000) :
    Calls Tryd.prog 10 #[.slice (some ⟨s.w.heap.size, 0, none⟩) 2 2] (s.w.alloc (.cells #[.slice a l.length cap, .slice a' l'.length cap'] 22)) fun e w'' => e = .returned (.agg (byteA (shaL (l ++ l')))) ∧ ∃ s' : HeldW w bs, w'' = s'.w := by
  have hb := (s.push (.cells #[.slice a l.length cap, .slice a' l'.length cap'] 22 (0, 0))).blocks (_, _) List.mem_cons_self
  have ho := of_any [l, l'] (some ⟨s.w.heap.size, 0, none⟩) 2 (s.push (.cells #[.slice a l.length cap, .slice a' l'.length cap'] 22 (0, 0))).w (hR.out.W _) (fun g hg => by
    have hlt := (Array.getElem?_eq_some_iff.1 hb).1
    have hw := (s.push (.cells #[.slice a l.length cap, .slice a' l'.length cap'] 22 (0, 0))).below.size
    exact parts2 hb (Nat.ne_of_lt (Nat.lt_of_lt_of_le hlt hg)) hcap hcap2 (hs (Nat.le_trans hw hg) _) hcap' hcap2' (hs' (Nat.le_trans hw hg) _)) (by simp) (by simp; omega)
  rw [show ([l, l'] : List (List Int)).flatten = l ++ l' by simp] at ho
  refine (HeldW.call ho).mono ?_
  rintro e _ ⟨rfl, s2, rfl⟩
  exact ⟨rfl, s2.sub (fun p hp => List.mem_cons_of_mem _ hp), rfl⟩
/-- Of of one part that lies in a new block. -/
theorem of1 {w : World} {bs : List (Nat × Obj)} {l : List Int} {a : Option Addr} {cap : Nat} (s : HeldW w bs) (hR : Hid (Roots w)) (hs : ∀ {g : Nat}, w.heap.size ≤ g → ∀ {bs : List (Nat × Obj)} (s : HeldW w bs), Src s.w g a l) (hcap : l.length ≤ cap) (hcap2 : cap ≤ 9223372036854775807) (hm : l.length < 1000000) :
    Calls Tryd.prog 10 #[.slice (some ⟨s.w.heap.size, 0, none⟩) 1 1] (s.w.alloc (.cells #[.slice a l.length cap] 22)) fun e w'' => e = .returned (.agg (byteA (shaL l))) ∧ ∃ s' : HeldW w bs, w'' = s'.w := by
  have hb := (s.push (.cells #[.slice a l.length cap] 22 (0, 0))).blocks (_, _) List.mem_cons_self
  have ho := of_any [l] (some ⟨s.w.heap.size, 0, none⟩) 1 (s.push (.cells #[.slice a l.length cap] 22 (0, 0))).w (hR.out.W _) (fun g hg => by
    have hlt := (Array.getElem?_eq_some_iff.1 hb).1
    have hw := (s.push (.cells #[.slice a l.length cap] 22 (0, 0))).below.size
    exact parts1 hb (Nat.ne_of_lt (Nat.lt_of_lt_of_le hlt hg)) hcap hcap2 (hs (Nat.le_trans hw hg) _)) (by simp) (by simp; omega)
  rw [show ([l] : List (List Int)).flatten = l by simp] at ho
  refine (HeldW.call ho).mono ?_
  rintro e _ ⟨rfl, s2, rfl⟩
  exact ⟨rfl, s2.sub (fun p hp => List.mem_cons_of_mem _ hp), rfl⟩

set_option maxRecDepth 100000 in
set_option maxHeartbeats 8000000 in
theorem clones_small (a b c : Option Addr) (la lb lc : List Int) (ca cb cc : Nat) (w : World) (hR : Roots w) (ha : BytesIn w a la ca) (hb : BytesIn w b lb cb) (hc : BytesIn w c lc cc) (h1 : la.length ≤ 200) (h2 : lb.length ≤ 200) (h3 : lc.length ≤ 200) :
    Calls Tryd.prog 6 #[.slice a la.length ca, .slice b lb.length cb, .slice c lc.length cc] w (Gives (.bool true) w) := by
  have d1 : decide ((200 : Int) < la.length) = false := by simp; omega
  have d2 : decide ((200 : Int) < lb.length) = false := by simp; omega
  have d3 : decide ((200 : Int) < lc.length) = false := by simp; omega
  have HR := Lib.hid hR
  have HA := Lib.hid ha
  have HB := Lib.hid hb
  have HC := Lib.hid hc
  have hgt := guard_arr
  clear hR ha hb hc
  go_enter Tryd.func6, Tryd.ntmps6
  go_wp2_with fail
  refine (HeldW.makes (s := HeldW.start w) (new_any _)).mono ?_
  rintro e _ ⟨g, o, rfl, hg, hgb, hi, s1, rfl⟩
  go_wp2_with fail
  have hlt := (Array.getElem?_eq_some_iff.1 (s1.blocks (_, _) List.mem_cons_self)).1
  refine (write1 (s1.push (.cells #[.slice a la.length ca] 22 (0, 0))) HR hi hg (Nat.ne_of_gt hlt) (by simp) (HeldW.src HA.out hg _) HA.out.len HA.out.capb (by simp; omega)).mono ?_
  rintro e _ ⟨rfl, o1, hi1, s2, rfl⟩
  rw [List.nil_append] at hi1
  clear hlt hgb hi
  go_wp2_with fail
  refine (HeldW.makes (s := s2) (clone_any g _ o1 hi1.out _ (s2.blocks (_, _) List.mem_cons_self))).mono ?_
  rintro e _ ⟨k, o2, rfl, hk, hkb, hi2, s3, rfl⟩
  have hkg : g ≠ k := hkb.out _ List.mem_cons_self
  clear hkb
  go_wp2_with fail
  have hlt := (Array.getElem?_eq_some_iff.1 (s3.blocks (_, _) List.mem_cons_self)).1
  refine (write1 (s3.push (.cells #[.slice b lb.length cb] 22 (0, 0))) HR hi2 hk (Nat.ne_of_gt hlt) (all1 (Q := fun p : Nat × Obj => p.1 ≠ k) hkg) (HeldW.src HB.out hk _) HB.out.len HB.out.capb (by omega)).mono ?_
  rintro e _ ⟨rfl, o3, hi3, s4, rfl⟩
  clear hlt hi2
  go_wp2_with fail
  have hlt := (Array.getElem?_eq_some_iff.1 (s4.blocks (g, o1) (by simp))).1
  refine (write1 ((s4.push (.cells #[.slice c lc.length cc] 22 (0, 0))).sub (bs' := [(s4.w.heap.size, .cells #[.slice c lc.length cc] 22 (0, 0)), (g, o1), (k, o3)]) (by simp)) HR hi1 hg (Nat.ne_of_gt hlt) (all1 (Q := fun p : Nat × Obj => p.1 ≠ g) (fun h => hkg h.symm)) (HeldW.src HC.out hg _) HC.out.len HC.out.capb (by omega)).mono ?_
  rintro e _ ⟨rfl, o4, hi4, s5, rfl⟩
  clear hlt
  have hal := HeldW.call (s := s5) (alive_any s5.w (HR.out.W s5))
  go_wp2_with fail
  refine hal.mono ?_
  rintro e _ ⟨rfl, s6, rfl⟩
  clear hal
  have hsu := HeldW.call (s := s6) (sum_any k (la ++ lb) o3 s6.w hi3.out (s6.blocks (k, o3) (by simp)) (HR.out.W s6) (by rw [List.length_append]; omega))
  have hD := Lib.hid (shaL_length (la ++ lb))
  have hof := fun (s : HeldW w [(g, o4), (k, o3)]) => of2 s HR (HeldW.src HA.out) HA.out.len HA.out.capb (HeldW.src HB.out) HB.out.len HB.out.capb (by omega)
  generalize shaL (la ++ lb) = D at hsu hD hof
  have heq := equal_same D hD.out
  go_wp2_with fail
  refine hsu.mono ?_
  rintro e _ ⟨rfl, s7, rfl⟩
  clear hsu
  go_wp2_with fail
  refine (hof s7).mono ?_
  rintro e _ ⟨rfl, s8, rfl⟩
  clear hof
  have hsu := HeldW.call (s := s8) (sum_any g (la ++ lc) o4 s8.w hi4.out (s8.blocks (g, o4) (by simp)) (HR.out.W s8) (by rw [List.length_append]; omega))
  have hD2 := Lib.hid (shaL_length (la ++ lc))
  have hof := fun (s : HeldW w [(g, o4), (k, o3)]) => of2 s HR (HeldW.src HA.out) HA.out.len HA.out.capb (HeldW.src HC.out) HC.out.len HC.out.capb (by omega)
  generalize shaL (la ++ lc) = D2 at hsu hD2 hof
  go_wp2_with fail
  refine hsu.mono ?_
  rintro e _ ⟨rfl, s9, rfl⟩
  clear hsu heq
  have heq := equal_same D2 hD2.out
  go_wp2_with fail
  refine (hof s9).mono ?_
  rintro e _ ⟨rfl, s10, rfl⟩
  clear hof
  have hle := HeldW.call (s := s10) (gives_same (len_any k (la ++ lb) o3 hi3.out s10.w (s10.blocks (k, o3) (by simp))))
  rw [List.length_append] at hle
  go_wp2_with fail
  refine hle.mono ?_
  rintro e _ ⟨rfl, s11, rfl⟩
  clear hle
  go_wp2
  go_ret
  exact ⟨rfl, s11.below⟩

theorem shaClones_walk (a : Option Addr) (la : List Int) (ca : Nat) (b : Option Addr) (lb : List Int) (cb : Nat) (c : Option Addr) (lc : List Int) (cc : Nat) (w : World) (hR : Roots w) (ha : BytesIn w a la ca) (hb : BytesIn w b lb cb) (hc : BytesIn w c lc cc) :
    Calls Tryd.prog 6 #[.slice a la.length ca, .slice b lb.length cb, .slice c lc.length cc] w (Gives (.bool true) w) := by
  by_cases h : la.length ≤ 200 ∧ lb.length ≤ 200 ∧ lc.length ≤ 200
  · exact clones_small a b c la lb lc ca cb cc w hR ha hb hc h.1 h.2.1 h.2.2
  · have h1 := ha.len
    have h2 := hb.len
    have h3 := hc.len
    have h4 := ha.capb
    have h5 := hb.capb
    have h6 := hc.capb
    exact clones_big a b c la lb lc ca cb cc w hR (by omega) (by omega) (by omega) (by omega)
end Go.Proofs.YtnpcocjjmajifaaDoor
