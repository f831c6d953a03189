/- CheckBursts returns true for all bytes, places and changes, and changes nothing that was there. -/
import Derived.Test.YtmjdmojommggjaaDoor03BurstM
import Derived.Test.YtmjdmojommggjaaDoor03LawFlips
namespace Go.Proofs.YtmjdmojommggjaaDoor
open Go.RowKit
set_option linter.unusedVariables false

theorem bursts_big (l : List Int) (a : Option Addr) (cap : Nat) (t c : Int) (w : World) (hT : Tab w) (hbig : 300 < l.length) (hmax : l.length ≤ 9223372036854775807) : Calls Tryd.prog 7 #[.slice a l.length cap, .int .u16 t, .int .u32 c] w (Gives (.bool true) w) := by
  have ha := alive03_any w hT
  have d : decide ((300 : Int) < (l.length : Int)) = true := by simp; omega
  generalize l.length = n at *
  clear hT
  go_enter Tryd.func7, Tryd.ntmps7
  go_wp2_with fail
  refine (HeldW.call (s := HeldW.start w) ha).mono ?_
  rintro e _ ⟨rfl, s1, rfl⟩
  clear ha
  go_wp2
  go_ret
  exact ⟨rfl, s1.below⟩
theorem bursts_zero (n : Nat) (a : Option Addr) (cap : Nat) (t : Int) (w : World) (hT : Tab w) (hsmall : n ≤ 300) : Calls Tryd.prog 7 #[.slice a n cap, .int .u16 t, .int .u32 0] w (Gives (.bool true) w) := by
  have ha := alive03_any w hT
  have d : decide ((300 : Int) < (n : Int)) = false := by simp; omega
  clear hT
  go_enter Tryd.func7, Tryd.ntmps7
  go_wp2_with fail
  refine (HeldW.call (s := HeldW.start w) ha).mono ?_
  rintro e _ ⟨rfl, s1, rfl⟩
  clear ha
  go_wp2
  go_ret
  exact ⟨rfl, s1.below⟩

set_option maxRecDepth 100000 in
set_option maxHeartbeats 8000000 in
theorem bursts_small (l : List Int) (a : Option Addr) (cap : Nat) (t : Int) (c : Nat) (w : World) (hT : Tab w) (hb : BytesIn w a l cap) (hok : OkB l) (hsmall : l.length ≤ 300) (ht : 0 ≤ t ∧ t ≤ 65535) (hc : c < 4294967296) (hc0 : c ≠ 0) :
    Calls Tryd.prog 7 #[.slice a l.length cap, .int .u16 t, .int .u32 (c : Int)] w (Gives (.bool true) w) := by
  have HT := Lib.hid hT
  have hse := rcseal_any l a cap w hb (by omega)
  have hsl := sealL_length l
  obtain ⟨m, hm⟩ : ∃ m, m = (sealL l).length := ⟨_, rfl⟩
  have HM := Lib.hid hm
  have hm4 : 4 ≤ m := by omega
  have hm5 : m ≤ 304 := by omega
  obtain ⟨f, hf⟩ : ∃ f : Nat, t % (8 * (m : Int) - 31) = (f : Int) := ⟨(t % (8 * (m : Int) - 31)).toNat, by have := Int.emod_nonneg t (show (8 * (m : Int) - 31) ≠ 0 by omega); omega⟩
  have hf2 : (f : Int) < 8 * (m : Int) - 31 := by rw [← hf]; exact Int.emod_lt_of_pos t (by omega)
  have hdn : ¬ (8 * (m : Int) - 31 = 0) := by omega
  have HSS := Lib.hid (sealed_seal l)
  have HOK := Lib.hid (okB_seal hok)
  have d1 : decide ((300 : Int) < (l.length : Int)) = false := by simp; omega
  have d2 : ((c : Int) == 0) = false := by simp; omega
  have ht1 := ht.1
  have ht2 := ht.2
  have HC := Lib.hid hc
  have HC0 := Lib.hid hc0
  generalize l.length = n at hse d1 hsmall ⊢
  clear hT hb hok hsl hm ht hc hc0
  go_enter Tryd.func7, Tryd.ntmps7
  go_wp2_with fail
  refine hse.mono ?_
  rintro e _ ⟨v, rfl, o1, rfl⟩
  obtain ⟨g, cap1, cur, rfl, hc1, hcb1, hg, _, hcur, s1, hs1⟩ := (HeldW.start w).own o1 m (by rw [List.length_map, HM.out]) (by omega)
  have HCS := Lib.hid (show ∀ j, j < m → cur[j]? = some (.int .u8 ((sealL l)[j]?.getD 0)) from fun j hj => hcur.out j _ (by rw [List.getElem?_map, List.getElem?_eq_getElem (by have := HM.out; omega)]; rfl))
  rw [show o1.w = s1.w from hs1]
  clear hse hs1 o1 hcur d1 d2
  go_wp2
  rw [hf]
  have hf3 : f + 32 ≤ 8 * m := by omega
  clear hf hf2 hdn ht1 ht2
  go_loopw [9, 29] (fun _ i wr => ∃ k : Nat, k ≤ 32 ∧ i = .int .i64 k ∧ ∃ (S : List Int) (cur : Array Value), Hid (Burst l m f c k S) ∧ Hid (∀ j, j < m → cur[j]? = some (.int .u8 (S[j]?.getD 0))) ∧ ∃ s : HeldW w [(g, .cells cur 5 (0, 0))], wr = s.w) (fun _ i _ => 32 - (intOf i).toNat)
  case atStart => exact ⟨0, by omega, rfl, sealL l, cur, Lib.hid (Burst.start HOK.out HM.out.symm), HCS, s1, rfl⟩
  case round =>
    clear s1 HCS
    obtain ⟨k, hk, rfl, S, cur, hS, hcu, s, rfl⟩ := hrel
    by_cases hlt : k < 32
    · obtain ⟨D, hD⟩ : ∃ D, D = c / 2 ^ k := ⟨_, rfl⟩
      have hdk : (c : Int) / 2 ^ k = (D : Int) := by rw [hD]; exact (Int.natCast_ediv _ _).symm ▸ (by rw [Int.natCast_pow]; rfl)
      have hDl : D < 4294967296 := by rw [hD]; exact Nat.lt_of_le_of_lt (Nat.div_le_self _ _) HC.out
      have a1 := and1 hDl
      by_cases hbit : D % 2 = 1
      · have HB := Lib.hid (Burst.flip hS.out (show c / 2 ^ k % 2 = 1 by rw [← hD]; exact hbit) hf3 hlt)
        obtain ⟨q, hq⟩ : ∃ q, q = (f + k) / 8 := ⟨_, rfl⟩
        obtain ⟨r, hr⟩ : ∃ r, r = (f + k) % 8 := ⟨_, rfl⟩
        rw [← hq, ← hr] at HB
        have hqm : q < m := by omega
        have hsh := shl8 (k := r) (by omega)
        have hmod : ((f : Int) + (k : Int)) % 8 = (r : Int) := by omega
        have hdiv : ((f : Int) + (k : Int)) / 8 = (q : Int) := by omega
        have hokq := okB_at hS.out.ok q
        have hxr : bits .xor .u8 (S[q]?.getD 0) ((2 ^ r : Nat) : Int) = flipB (S[q]?.getD 0) r := by
          rw [bits_nb hokq (by have := pow8 (k := r) (by omega); omega), nb_nat (pow8 (by omega))]; rfl
        have hx1 := hcu.out q hqm
        have HSL := Lib.hid hS.out.len
        generalize hp : ((2 ^ r : Nat) : Int) = P at hsh hxr
        obtain ⟨x, hx⟩ : ∃ x, x = S[q]?.getD 0 := ⟨_, rfl⟩
        rw [← hx] at hxr HB hx1
        generalize flipB x r = y at hxr HB
        have hce : ∀ s : HeldW w [(g, .cells cur 5 (0, 0))], s.w.cell? ⟨g, q, none⟩ = some (.int .u8 x) := fun s => by rw [cell_of (s.blocks (_, _) List.mem_cons_self), hx1]
        rw [hbit, show ((1 : Nat) : Int) = 1 from rfl] at a1
        clear hS hD hq hr hokq hp hx hbit
        go_wp2
        refine wp_region_class_tail 14 _ _ (by kernel_rfl) (by kernel_rfl) s.below s.blocks (fun hne => ?_)
        simp only [List.take_succ_cons, List.take_zero, List.drop_succ_cons, List.drop_zero]
        clear s
        repeat (go_big_quiet_step (fail))
        refine wpQuiet_nil ?_
        rintro _ ⟨s, rfl⟩
        have hblk := s.blocks (g, .cells cur 5 (0, 0)) List.mem_cons_self
        have hcell := (cell_of hblk q).trans hx1
        have hfree := free_of hblk q
        clear hne hce hblk
        go_wp2
        go_roundw
        case rel =>
          refine ⟨k + 1, by omega, by go_num, S.set q y, cur.setIfInBounds q (.int .u8 y), HB, fun j hj => ?_, s.store hg (by simp) rfl, rfl⟩
          have hj2 := hcu.out j hj
          by_cases hqj : q = j
          · subst hqj
            have hsz := (Array.getElem?_eq_some_iff.1 hj2).1
            rw [List.getElem?_set_self (by have := HSL.out; omega)]
            simp [hsz]
          · rw [Array.getElem?_setIfInBounds_ne hqj, hj2, List.getElem?_set_ne hqj]
        case measure => simp [intOf]; omega
      · have HB := Lib.hid (Burst.skip hS.out (show ¬ c / 2 ^ k % 2 = 1 by rw [← hD]; exact hbit))
        have a3 : (((D % 2 : Nat) : Int) == 1) = false := by simp; omega
        generalize ((D % 2 : Nat) : Int) = z at a1 a3
        clear hS hD
        go_wp2
        go_roundw
        case rel => exact ⟨k + 1, by omega, by go_num, S, cur, HB, hcu, s, rfl⟩
        case measure => simp [intOf]; omega
    · obtain rfl : k = 32 := by omega
      have hns := Burst.stop hS.out HSS.out HC.out HC0.out
      have hbS : BytesIn s.w (some ⟨g, 0, none⟩) S cap1 := ⟨by rw [hS.out.len]; exact hc1, hcb1, fun _ => ⟨g, 0, rfl, fun i hi => by
        rw [hS.out.len] at hi
        rw [Nat.zero_add, cell_of (s.blocks (_, _) List.mem_cons_self), hcu.out i hi]⟩, fun h => by cases h⟩
      have hop := copen_any S (some ⟨g, 0, none⟩) cap1 s.w (HT.out.W s) hbS (by rw [hS.out.len]; omega)
      rw [hS.out.len] at hop
      clear hS hcu hbS
      go_wp2_with fail
      refine hop.mono ?_
      rintro e w1 (⟨h1, _⟩ | ⟨_, rfl, hbl⟩)
      · rw [hns] at h1; cases h1
      obtain ⟨s2, hs2⟩ : ∃ s2 : HeldW w [], w1 = s2.w := ⟨⟨w1, s.below.trans (hbl.mono s.below.size), by simp⟩, rfl⟩
      rw [hs2]
      clear hop hbl hs2
      go_wp2_with fail
      refine (HeldW.call (s := s2) (alive03_any s2.w (HT.out.W s2))).mono ?_
      rintro e _ ⟨rfl, s3, rfl⟩
      go_wp2
      go_ret
      exact ⟨rfl, s3.below⟩

theorem checkBursts_walk (a : Option Addr) (l : List Int) (cap : Nat) (t c : Int) (w : World) (hT : Tab w) (hb : BytesIn w a l cap) (hok : OkB l) (ht : 0 ≤ t ∧ t ≤ 65535) (hc : 0 ≤ c ∧ c ≤ 4294967295) : Calls Tryd.prog 7 #[.slice a l.length cap, .int .u16 t, .int .u32 c] w (Gives (.bool true) w) := by
  by_cases h : l.length ≤ 300
  · by_cases h0 : c = 0
    · subst h0
      exact bursts_zero l.length a cap t w hT h
    · obtain ⟨C, rfl⟩ : ∃ C : Nat, c = (C : Int) := ⟨c.toNat, by omega⟩
      exact bursts_small l a cap t C w hT hb hok h ht (by omega) (by omega)
  · exact bursts_big l a cap t c w hT (by omega) (Nat.le_trans hb.len hb.capb)
end Go.Proofs.YtmjdmojommggjaaDoor
