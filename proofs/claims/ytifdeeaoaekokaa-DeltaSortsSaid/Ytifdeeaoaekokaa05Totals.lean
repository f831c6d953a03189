/- Totals of package delta and of its reference, at a valid delta. -/
import Derived.Test.Ytifdeeaoaekokaa05RCheck
namespace Go.Proofs.Ytifdeeaoaekokaa
open Go.RowKit Go.Shelf Go.Proofs.Ytifdeeaoaekokaa.Plain01
set_option linter.unusedVariables false
set_option linter.unusedSimpArgs false

theorem take_succ_of {cs : List Cmd} {k : Nat} {c : Cmd} (h : cs[k]? = some c) : cs.take (k + 1) = cs.take k ++ [c] := by rw [List.take_add_one, h]; rfl
theorem copied_succ {cs : List Cmd} {k : Nat} {c : Cmd} (h : cs[k]? = some c) : copied (cs.take (k + 1)) = copied (cs.take k) + (if c.k = 1 then c.n else 0) := by rw [take_succ_of h]; simp [copied]
theorem literal_succ {cs : List Cmd} {k : Nat} {c : Cmd} (h : cs[k]? = some c) : literal (cs.take (k + 1)) = literal (cs.take k) + (if c.k = 1 then 0 else (c.l.length : Int)) := by rw [take_succ_of h]; simp [literal]

set_option maxRecDepth 100000 in
set_option maxHeartbeats 4000000 in
theorem dtotals_any (D : Array Value) (o n : Int) (xx y : List Int) (ca : Option Addr) (cs : List Cmd) (ccap : Nat) (hD : DeltaOf D o n xx y (.slice ca cs.length ccap)) (w : World) (h : CmdsIn w ca cs ccap) (hv : ValidD o n cs) :
    Calls Try.prog 17 #[.agg D] w (Gives (pairV (copied cs) (literal cs)) w) := by
  have hpost : Hid (∀ (s : HeldW w [(w.heap.size, deltaO D)]), Gives (pairV (copied cs) (literal cs)) w (.returned (pairV (copied cs) (literal cs))) s.w) := Lib.hid fun s => ⟨rfl, s.below⟩
  have HD := Lib.hid hD
  have HC := Lib.hid h
  have HV := Lib.hid hv
  obtain ⟨L, hLe⟩ : ∃ L, L = cs.length := ⟨_, rfl⟩
  have HL := Lib.hid hLe
  rw [← hLe] at HD
  have hLcap : L ≤ ccap := by rw [hLe]; exact h.len
  have hccap := h.capb
  have hnb : n ≤ 4611686018427387903 := by have := hv.lens; unfold LensBad at this; omega
  generalize Gives (pairV (copied cs) (literal cs)) w = POST at hpost ⊢
  clear hD h hLe hv
  go_enter Try.func17, Try.ntmps17
  have e0 : (w.alloc (deltaO D)).cell? ⟨w.heap.size, 66, none⟩ = some (.slice ca L ccap) := (cell_of (heap_new w _ rfl) 66).trans HD.out.c66
  go_wp2
  obtain ⟨S, hS⟩ := start1 w (deltaO D)
  rw [hS]
  clear hS e0
  go_loopw [4, 5, 14] (fun u z v wr => ∃ (k : Nat) (p q : Int), k ≤ L ∧ Hid (p = copied (cs.take k) ∧ q = literal (cs.take k)) ∧ u = .int .i64 p ∧ z = .int .i64 q ∧ v = .int .i64 k ∧ ∃ s : HeldW w [(w.heap.size, deltaO D)], wr = s.w) (fun _ _ v _ => L - (intOf v).toNat)
  case atStart => exact ⟨0, 0, 0, by omega, Lib.hid ⟨rfl, rfl⟩, rfl, rfl, rfl, S, rfl⟩
  case round =>
    clear S
    obtain ⟨k, p, q, hk, hpq, rfl, rfl, rfl, s, rfl⟩ := hrel
    by_cases hlt : k < L
    · obtain ⟨c, hc⟩ : ∃ c, cs[k]? = some c := ⟨_, List.getElem?_eq_getElem (by rw [← HL.out]; exact hlt)⟩
      have hsn := HV.out.all c (List.mem_of_getElem? hc)
      have c1 := copied_succ hc
      have c2 := literal_succ hc
      have b1 := HV.out.part k
      have b2 := HV.out.part (k + 1)
      rw [← hpq.out.1] at c1 b1
      rw [← hpq.out.2] at c2 b1
      rw [c1, c2] at b2
      obtain ⟨b, oo, rfl, x0, x1, x2, x3, x4⟩ := (HC.out.W s).at hc
      rcases chk_ok (single_ok hsn).1 with ⟨hk1, hL, hn, o1, o2⟩ | ⟨hk1, hf, hn, hL, o1⟩
      · rw [if_pos hk1] at c1 b2
        rw [if_pos hk1] at c2 b2
        have hT := mtarget_any c.k c.t c.f c.n (.inl hk1) c.a c.l.length c.cap
        rw [show wlen c.k c.n c.l.length = c.n by unfold wlen; rw [if_pos hk1]] at hT
        have hs := msource_copy c.t c.f c.n c.a c.l.length c.cap
        have hfl := ext_len c.t c.n
        rw [← hk1] at hs
        have HR := Lib.hid (show p + c.n = copied (cs.take (k + 1)) ∧ q = literal (cs.take (k + 1)) by rw [c1, c2]; omega)
        obtain ⟨r, hr⟩ : ∃ r, r = p + c.n := ⟨_, rfl⟩
        rw [← hr] at HR
        have rw1 : p + c.n = r := hr.symm
        have hrb : 0 ≤ r ∧ r ≤ 4611686018427387903 := by omega
        obtain ⟨r0, r1⟩ := hrb
        generalize c.k = kk at *
        clear hc hsn c1 c2 b1 b2 o1 o2 hr hn hk1 hpq hL
        go_wp2_with fail
        obtain ⟨B, S2, hB, hB0, hlt2, hS⟩ := s.more1 (cmdO kk c.t c.f c.n (.slice c.a c.l.length c.cap))
        rw [hS, ← hB]
        clear hS hB hlt2 x0 x1 x2 x3 x4
        refine (HeldW.call (s := S2) (hT _)).mono ?_
        rintro e _ ⟨rfl, s3, rfl⟩
        obtain ⟨d0, d1, d2, d3, d4, d5⟩ := held_cmd s3 (B) kk c.t c.f c.n (.slice c.a c.l.length c.cap) (by simp)
        go_wp2_with fail
        clear d0 d1 d2 d3 d4 d5
        refine (HeldW.call (s := s3) (hs _)).mono ?_
        rintro e _ ⟨rfl, s4, rfl⟩
        go_wp2_with fail
        go_roundw
        case rel => exact ⟨k + 1, r, q, by omega, HR, rfl, rfl, by go_num, (s4.push _).sub (fun p hp => List.mem_cons_of_mem _ (List.mem_cons_of_mem _ hp)), rfl⟩
        case measure => simp [intOf]; omega
      · rw [if_neg (by omega)] at c1 b2
        rw [if_neg (by omega)] at c2 b2
        have hT := mtarget_any c.k c.t c.f c.n (.inr hk1) c.a c.l.length c.cap
        rw [show wlen c.k c.n c.l.length = c.l.length by unfold wlen; rw [if_neg (by omega)]] at hT
        have hs := msource_lit c.t c.f c.n c.a c.l.length c.cap
        have hfl := ext_len c.t c.l.length
        rw [← hk1] at hs
        have HR := Lib.hid (show p = copied (cs.take (k + 1)) ∧ q + c.l.length = literal (cs.take (k + 1)) by rw [c1, c2]; omega)
        obtain ⟨r, hr⟩ : ∃ r, r = q + (c.l.length : Int) := ⟨_, rfl⟩
        rw [← hr] at HR
        have rw1 : q + (c.l.length : Int) = r := hr.symm
        have hrb : 0 ≤ r ∧ r ≤ 4611686018427387903 := by omega
        obtain ⟨r0, r1⟩ := hrb
        generalize c.k = kk at *
        generalize c.l.length = M at *
        clear hc hsn c1 c2 b1 b2 o1 hr hn hk1 hpq hf hL
        go_wp2_with fail
        obtain ⟨B, S2, hB, hB0, hlt2, hS⟩ := s.more1 (cmdO kk c.t c.f c.n (.slice c.a M c.cap))
        rw [hS, ← hB]
        clear hS hB hlt2 x0 x1 x2 x3 x4
        refine (HeldW.call (s := S2) (hT _)).mono ?_
        rintro e _ ⟨rfl, s3, rfl⟩
        obtain ⟨d0, d1, d2, d3, d4, d5⟩ := held_cmd s3 (B) kk c.t c.f c.n (.slice c.a M c.cap) (by simp)
        go_wp2_with fail
        clear d0 d1 d2 d3 d4 d5
        refine (HeldW.call (s := s3) (hs _)).mono ?_
        rintro e _ ⟨rfl, s4, rfl⟩
        go_wp2_with fail
        go_roundw
        case rel => exact ⟨k + 1, p, r, by omega, HR, rfl, rfl, by go_num, (s4.push _).sub (fun p hp => List.mem_cons_of_mem _ (List.mem_cons_of_mem _ hp)), rfl⟩
        case measure => simp [intOf]; omega
    · obtain rfl : k = L := by omega
      have hh := hpq.out
      rw [HL.out, List.take_length] at hh
      have HH := Lib.hid hh
      clear hh
      go_wp2
      have := hpost.out s
      rw [← HH.out.1, ← HH.out.2] at this
      exact this

set_option maxRecDepth 100000 in
set_option maxHeartbeats 4000000 in
theorem rdtotals_any (D : Array Value) (o n : Int) (xx y : List Int) (ca : Option Addr) (cs : List Cmd) (ccap : Nat) (hD : DeltaOf D o n xx y (.slice ca cs.length ccap)) (w : World) (h : CmdsIn w ca cs ccap) (hv : ValidD o n cs) :
    Calls Try.prog 18 #[.agg D] w (Gives (pairV (copied cs) (literal cs)) w) := by
  have hpost : Hid (∀ (s : HeldW w [(w.heap.size, deltaO D)]), Gives (pairV (copied cs) (literal cs)) w (.returned (pairV (copied cs) (literal cs))) s.w) := Lib.hid fun s => ⟨rfl, s.below⟩
  have HD := Lib.hid hD
  have HC := Lib.hid h
  have HV := Lib.hid hv
  obtain ⟨L, hLe⟩ : ∃ L, L = cs.length := ⟨_, rfl⟩
  have HL := Lib.hid hLe
  rw [← hLe] at HD
  have hLcap : L ≤ ccap := by rw [hLe]; exact h.len
  have hccap := h.capb
  have hnb : n ≤ 4611686018427387903 := by have := hv.lens; unfold LensBad at this; omega
  generalize Gives (pairV (copied cs) (literal cs)) w = POST at hpost ⊢
  clear hD h hLe hv
  go_enter Try.func18, Try.ntmps18
  go_wp2
  obtain ⟨S, hS⟩ := start1 w (deltaO D)
  rw [hS]
  clear hS
  go_loopw [4, 5, 6] (fun u z v wr => ∃ (k : Nat) (p q : Int), k ≤ L ∧ Hid (p = copied (cs.take k) ∧ q = literal (cs.take k)) ∧ u = .int .i64 p ∧ z = .int .i64 q ∧ v = .int .i64 k ∧ ∃ s : HeldW w [(w.heap.size, deltaO D)], wr = s.w) (fun _ _ v _ => L - (intOf v).toNat)
  case atStart => exact ⟨0, 0, 0, by omega, Lib.hid ⟨rfl, rfl⟩, rfl, rfl, rfl, S, rfl⟩
  case round =>
    clear S
    obtain ⟨k, p, q, hk, hpq, rfl, rfl, rfl, s, rfl⟩ := hrel
    have d2 := (delta_in s w.heap.size D o n xx y (.slice ca L ccap) HD.out (by simp)).2.2
    by_cases hlt : k < L
    · obtain ⟨c, hc⟩ : ∃ c, cs[k]? = some c := ⟨_, List.getElem?_eq_getElem (by rw [← HL.out]; exact hlt)⟩
      have hsn := HV.out.all c (List.mem_of_getElem? hc)
      have c1 := copied_succ hc
      have c2 := literal_succ hc
      have b1 := HV.out.part k
      have b2 := HV.out.part (k + 1)
      rw [← hpq.out.1] at c1 b1
      rw [← hpq.out.2] at c2 b1
      rw [c1, c2] at b2
      obtain ⟨b, oo, rfl, x0, x1, x2, x3, x4⟩ := (HC.out.W s).at hc
      rcases chk_ok (single_ok hsn).1 with ⟨hk1, hL, hn, o1, o2⟩ | ⟨hk1, hf, hn, hL, o1⟩
      · rw [if_pos hk1] at c1 b2
        rw [if_pos hk1] at c2 b2
        have HR := Lib.hid (show p + c.n = copied (cs.take (k + 1)) ∧ q = literal (cs.take (k + 1)) by rw [c1, c2]; omega)
        obtain ⟨r, hr⟩ : ∃ r, r = p + c.n := ⟨_, rfl⟩
        rw [← hr] at HR
        have rw1 : p + c.n = r := hr.symm
        have hrb : 0 ≤ r ∧ r ≤ 4611686018427387903 := by omega
        obtain ⟨r0, r1⟩ := hrb
        rw [hk1] at x0
        clear hc hsn c1 c2 b1 b2 o1 o2 hr hn hk1 hpq hL
        go_wp2
        go_roundw
        case rel => exact ⟨k + 1, r, q, by omega, HR, by go_num, rfl, by go_num, s, rfl⟩
        case measure => simp [intOf]; omega
      · rw [if_neg (by omega)] at c1 b2
        rw [if_neg (by omega)] at c2 b2
        have HR := Lib.hid (show p = copied (cs.take (k + 1)) ∧ q + c.l.length = literal (cs.take (k + 1)) by rw [c1, c2]; omega)
        obtain ⟨r, hr⟩ : ∃ r, r = q + (c.l.length : Int) := ⟨_, rfl⟩
        rw [← hr] at HR
        have rw1 : q + (c.l.length : Int) = r := hr.symm
        have hrb : 0 ≤ r ∧ r ≤ 4611686018427387903 := by omega
        obtain ⟨r0, r1⟩ := hrb
        rw [hk1] at x0
        generalize c.l.length = M at *
        clear hc hsn c1 c2 b1 b2 o1 hr hn hk1 hpq hf hL
        go_wp2
        go_roundw
        case rel => exact ⟨k + 1, p, r, by omega, HR, rfl, by go_num, by go_num, s, rfl⟩
        case measure => simp [intOf]; omega
    · obtain rfl : k = L := by omega
      have hh := hpq.out
      rw [HL.out, List.take_length] at hh
      have HH := Lib.hid hh
      clear hh
      go_wp2
      have := hpost.out s
      rw [← HH.out.1, ← HH.out.2] at this
      exact this
end Go.Proofs.Ytifdeeaoaekokaa
