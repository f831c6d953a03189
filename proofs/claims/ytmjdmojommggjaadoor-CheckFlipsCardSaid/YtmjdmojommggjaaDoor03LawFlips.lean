/- CheckFlips returns true for all bytes and every bit, and changes nothing that was there. -/
import Derived.Test.YtmjdmojommggjaaDoor03LinM
import Derived.Test.YtmjdmojommggjaaDoor03RFlip
import Derived.Test.YtmjdmojommggjaaDoor03LawSeals
namespace Go.Proofs.YtmjdmojommggjaaDoor
open Go.RowKit
set_option linter.unusedVariables false

theorem flips_big (l : List Int) (a : Option Addr) (cap : Nat) (bit : Int) (w : World) (hT : Tab w) (hbig : 200 < l.length) (hmax : l.length ≤ 9223372036854775807) : Calls Tryd.prog 6 #[.slice a l.length cap, .int .i64 bit] w (Gives (.bool true) w) := by
  have ha := alive03_any w hT
  clear hT
  go_enter Tryd.func6, Tryd.ntmps6
  go_wp2_with fail
  refine (HeldW.call (s := HeldW.start w) ha).mono ?_
  rintro e _ ⟨rfl, s1, rfl⟩
  clear ha
  go_wp2
  go_ret
  exact ⟨rfl, s1.below⟩

set_option maxRecDepth 100000 in
set_option maxHeartbeats 4000000 in
theorem flips_none (n : Nat) (a : Option Addr) (cap : Nat) (bit : Int) (w : World) (hT : Tab w) (hsmall : n ≤ 200) (hbb : -9223372036854775808 ≤ bit ∧ bit ≤ 9223372036854775807) (hnb : bit < 0 ∨ (0 ≤ bit ∧ 8 * (n : Int) ≤ bit)) :
    Calls Tryd.prog 6 #[.slice a n cap, .int .i64 bit] w (Gives (.bool true) w) := by
  have hno : NoBit (n : Int) bit := by unfold NoBit; omega
  have h1 := cflip_none (n : Int) bit w (by omega) hbb hno
  have h2 := rcflip_none (n : Int) bit w (by omega) hbb hno
  have h3 := fun w => cflip_none 65537 0 w (by omega) (by omega) (by unfold NoBit; omega)
  have hal := alive03_any w hT
  have hbb1 := hbb.1
  have hbb2 := hbb.2
  clear hT hno hbb
  rcases hnb with hb | ⟨hb0, hb⟩
  · have d : decide (bit < 0) = true := by simpa using hb
    go_enter Tryd.func6, Tryd.ntmps6
    go_wp2_with fail
    refine h1.mono ?_
    rintro e w' ⟨rfl, rfl⟩
    go_wp2_with fail
    refine h2.mono ?_
    rintro e w' ⟨rfl, rfl⟩
    clear h1 h2
    go_wp2_with fail
    refine (HeldW.call (s := HeldW.start _) hal).mono ?_
    rintro e _ ⟨rfl, s1, rfl⟩
    clear hal
    go_wp2_with fail
    refine (h3 _).mono ?_
    rintro e _ ⟨rfl, rfl⟩
    go_wp2
    go_ret
    exact ⟨rfl, s1.below⟩
  · have d : decide (bit < 0) = false := by simp; omega
    have d2 : decide (8 * (n : Int) ≤ bit) = true := by simpa using hb
    go_enter Tryd.func6, Tryd.ntmps6
    go_wp2_with fail
    refine h1.mono ?_
    rintro e w' ⟨rfl, rfl⟩
    go_wp2_with fail
    refine h2.mono ?_
    rintro e w' ⟨rfl, rfl⟩
    clear h1 h2
    go_wp2_with fail
    refine (HeldW.call (s := HeldW.start _) hal).mono ?_
    rintro e _ ⟨rfl, s1, rfl⟩
    clear hal
    go_wp2_with fail
    refine (h3 _).mono ?_
    rintro e _ ⟨rfl, rfl⟩
    go_wp2
    go_ret
    exact ⟨rfl, s1.below⟩

/-- Of of one part that lies in a new block. -/
theorem cof1 {w : World} {bs : List (Nat × Obj)} (s : HeldW w bs) (hT : Tab s.w) {a : Option Addr} {l : List Int} {cap n : Nat} (hn : l.length = n) (hb : BytesIn s.w a l cap) :
    Calls Tryd.prog 10 #[.slice (some ⟨s.w.heap.size, 0, none⟩) 1 1] (s.w.alloc (.cells #[.slice a n cap] 24)) fun e w'' => e = .returned (.int .u32 (crc l : Int)) ∧ ∃ s' : HeldW w bs, w'' = s'.w := by
  subst hn
  have hb1 : Below s.w.heap.size s.w (s.w.alloc (.cells #[.slice a l.length cap] 24)) := (Below.refl _ _).alloc (Nat.le_refl _) _
  have h := cof_any [l] (some ⟨s.w.heap.size, 0, none⟩) 1 (s.w.alloc (.cells #[.slice a l.length cap] 24)) (hT.below hb1) (partsIn1 (World.alloc_heap_new _ _) (hb.below hb1))
  rw [show ([l] : List (List Int)).flatten = l by simp] at h
  refine h.mono ?_
  rintro e w' ⟨rfl, rfl⟩
  exact ⟨rfl, (s.push (.cells #[.slice a l.length cap] 24 (0, 0))).sub (fun p hp => List.mem_cons_of_mem _ hp), rfl⟩

set_option maxRecDepth 100000 in
set_option maxHeartbeats 8000000 in
theorem flips_bit (l : List Int) (a : Option Addr) (cap B : Nat) (w : World) (hT : Tab w) (hb : BytesIn w a l cap) (hok : OkB l) (hsmall : l.length ≤ 200) (hB : B < 8 * l.length) :
    Calls Tryd.prog 6 #[.slice a l.length cap, .int .i64 (B : Int)] w (Gives (.bool true) w) := by
  obtain ⟨E⟩ := elem_of (P := Tryd.prog) (t := 24) (e := 5) (z := .int .u8 0) (n := 1) Tryd.underlying24 (by kernel_rfl) rfl (by omega)
  have HT := Lib.hid hT
  have HB := Lib.hid hb
  have h1 := gives_same (cflip_bit l.length B w hT (by omega) hB)
  have h2 := fun s : HeldW w [] => rcflip_bit l.length B s.w (by omega) hB
  have hcf := crc_flip l (B := B) (by omega) (okB_at hok _)
  have hfl := flipN_lt l.length B
  have hfn := flipN_ne l.length B
  obtain ⟨q, hq2⟩ : ∃ q, q = B / 8 := ⟨_, rfl⟩
  obtain ⟨k, hk2⟩ : ∃ k, k = B % 8 := ⟨_, rfl⟩
  rw [← hq2, ← hk2] at hcf
  have hq : q < l.length := by omega
  have hsh := shl8 (k := k) (by omega)
  have hmod : (B : Int) % 8 = (k : Int) := by omega
  have hdiv : (B : Int) / 8 = (q : Int) := by omega
  have hxr : bits .xor .u8 (l[q]?.getD 0) ((2 ^ k : Nat) : Int) = flipB (l[q]?.getD 0) k := by
    rw [bits_nb (okB_at hok q) (by have := pow8 (k := k) (by omega); omega), nb_nat (pow8 (by omega))]; rfl
  have hcx : bits .xor .u32 (crc l : Int) (flipN l.length B : Int) = (crc (l.set q (flipB (l[q]?.getD 0) k)) : Int) := by rw [bits_xor32 (crc_lt _) hfl, hcf]
  have hnz : ((flipN l.length B : Int) != 0) = true := by rw [bne_iff_ne]; omega
  have d1 : decide ((B : Int) < 0) = false := by simp
  have d2 : decide (8 * (l.length : Int) ≤ (B : Int)) = false := by simp; omega
  obtain ⟨C2, hC2⟩ : ∃ C2, C2 = crc (l.set q (flipB (l[q]?.getD 0) k)) := ⟨_, rfl⟩
  have HC2 := Lib.hid hC2
  obtain ⟨C1, hC1⟩ : ∃ C1, C1 = crc l := ⟨_, rfl⟩
  have HC1 := Lib.hid hC1
  rw [← hC1, ← hC2] at hcx
  generalize flipN l.length B = F at h1 h2 hcx hnz
  obtain ⟨so, hso⟩ := own_empty w
  have hL : l.length ≤ 9223372036854775807 := by omega
  have HNIL := Lib.hid (hb.nil2 rfl)
  obtain ⟨n, hn⟩ : ∃ n, n = l.length := ⟨_, rfl⟩
  have HN := Lib.hid hn
  have HML := Lib.hid (show n = (l.map (Value.int .u8)).length by rw [List.length_map, hn])
  rw [← hn] at h1 h2 hsmall hq d2 HNIL hL ⊢
  generalize hp : ((2 ^ k : Nat) : Int) = P at hsh hxr
  obtain ⟨x, hx⟩ : ∃ x, x = l[q]?.getD 0 := ⟨_, rfl⟩
  have HX := Lib.hid hx
  rw [← hx] at hxr HC2
  generalize flipB x k = y at hxr HC2
  clear hT hb hok hB hcf hfl hfn hq2 hk2 hC1 hC2 hso hn hp hx so
  go_enter Tryd.func6, Tryd.ntmps6
  go_wp2_with fail
  refine (HeldW.call (s := HeldW.start w) h1).mono ?_
  rintro e _ ⟨rfl, s0, rfl⟩
  go_wp2_with fail
  refine (HeldW.call (s := s0) (h2 s0)).mono ?_
  rintro e _ ⟨rfl, s1, rfl⟩
  clear h1 h2 s0
  obtain ⟨so, hso⟩ := own_empty s1.w
  have HSO := Lib.hid hso
  have HSR := Lib.hid (((HB.out.W s1).below so.below).news)
  clear hso
  go_wp2_with (rw [HSO.out]; refine wpList_append_src E so (l.map (Value.int .u8)) (.tmp 39) (.tmp 40) rfl rfl rfl a n cap HML.out rfl HNIL.out HSR.out (one_bytes _) (by rw [List.length_nil, ← HML.out]; omega) ?_; intro v' o1)
  obtain ⟨g, cap1, cur, rfl, hc1, hcb1, hg, _, hcur, s2, hs2⟩ := s1.own (o1.as (show [] ++ l.map (Value.int .u8) = l.map (Value.int .u8) from rfl)) n (by rw [← HML.out]) (by omega)
  have hcs : ∀ j, j < n → cur[j]? = some (.int .u8 (l[j]?.getD 0)) := fun j hj => hcur.out j _ (by rw [List.getElem?_map, List.getElem?_eq_getElem (by have := HN.out; omega)]; rfl)
  rw [show o1.w = s2.w from hs2]
  have HCS := Lib.hid hcs
  have hx1 := hcs q hq
  rw [← HX.out] at hx1
  clear hs2 o1 HSO HSR so hcur hcs
  have hce : ∀ s : HeldW w [(g, .cells cur 5 (0, 0))], s.w.cell? ⟨g, q, none⟩ = some (.int .u8 x) := fun s => by rw [cell_of (s.blocks (_, _) List.mem_cons_self), hx1]
  go_wp2
  refine wp_region_class_tail 10 _ _ (by kernel_rfl) (by kernel_rfl) s2.below s2.blocks (fun hne => ?_)
  simp only [List.take_succ_cons, List.take_zero, List.drop_succ_cons, List.drop_zero]
  clear s2
  repeat (go_big_quiet_step (fail))
  refine wpQuiet_nil ?_
  rintro _ ⟨s2, rfl⟩
  have hblk := s2.blocks (g, .cells cur 5 (0, 0)) List.mem_cons_self
  have hcell := (cell_of hblk q).trans hx1
  have hfree := free_of hblk q
  clear hne hce hblk
  obtain ⟨s3, hs3⟩ : ∃ s3 : HeldW w [(g, .cells (cur.setIfInBounds q (.int .u8 y)) 5 (0, 0))], s2.w.setCell ⟨g, q, none⟩ (.int .u8 y) = s3.w := ⟨s2.store hg (by simp) rfl, rfl⟩
  have HS3 := Lib.hid hs3
  have HBC := Lib.hid (show ∀ s3 : HeldW w [(g, .cells (cur.setIfInBounds q (.int .u8 y)) 5 (0, 0))], BytesIn s3.w (some ⟨g, 0, none⟩) (l.set q y) cap1 from fun s3 => ⟨by rw [List.length_set, ← HN.out]; exact hc1, hcb1, fun _ => ⟨g, 0, rfl, fun i hi => by
    rw [List.length_set, ← HN.out] at hi
    rw [Nat.zero_add, cell_of (s3.blocks (_, _) List.mem_cons_self)]
    have hi2 := HCS.out i hi
    by_cases hqi : q = i
    · subst hqi
      have hsz := (Array.getElem?_eq_some_iff.1 hi2).1
      rw [List.getElem?_set_self (by have := HN.out; omega)]
      simp [hsz]
    · rw [Array.getElem?_setIfInBounds_ne hqi, hi2, List.getElem?_set_ne hqi]⟩, fun h => by cases h⟩)
  clear hs3
  go_wp2_with fail
  rw [HS3.out]
  clear hcell hfree hx1 s2 HS3
  refine (HeldW.call (s := s3) (alive03_any s3.w (HT.out.W s3))).mono ?_
  rintro e _ ⟨rfl, s4, rfl⟩
  clear s3
  go_wp2_with fail
  refine (cof1 s4 (HT.out.W s4) (by rw [List.length_set, HN.out]) (HBC.out s4)).mono ?_
  rw [← HC2.out]
  rintro e _ ⟨rfl, s5, rfl⟩
  go_wp2_with fail
  refine (cof1 s5 (HT.out.W s5) HN.out.symm (HB.out.W s5)).mono ?_
  rw [← HC1.out]
  rintro e _ ⟨rfl, s6, rfl⟩
  go_wp2
  go_ret
  exact ⟨rfl, s6.below⟩

theorem checkFlips_walk (a : Option Addr) (l : List Int) (cap : Nat) (bit : Int) (w : World) (hT : Tab w) (hb : BytesIn w a l cap) (hok : OkB l) (hbb : -9223372036854775808 ≤ bit ∧ bit ≤ 9223372036854775807) : Calls Tryd.prog 6 #[.slice a l.length cap, .int .i64 bit] w (Gives (.bool true) w) := by
  by_cases h : l.length ≤ 200
  · by_cases hB : 0 ≤ bit ∧ bit < 8 * (l.length : Int)
    · obtain ⟨B, rfl⟩ : ∃ B : Nat, bit = (B : Int) := ⟨bit.toNat, by omega⟩
      exact flips_bit l a cap B w hT hb hok h (by omega)
    · exact flips_none l.length a cap bit w hT h hbb (by omega)
  · exact flips_big l a cap bit w hT (by omega) (Nat.le_trans hb.len hb.capb)
end Go.Proofs.YtmjdmojommggjaaDoor
