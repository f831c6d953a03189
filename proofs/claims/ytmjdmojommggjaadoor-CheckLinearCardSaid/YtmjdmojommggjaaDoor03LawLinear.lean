/- CheckLinear returns true for all bytes, and changes nothing that was there. -/
import Derived.Test.YtmjdmojommggjaaDoor00Loose
import Derived.Test.YtmjdmojommggjaaDoor00Cut
import Derived.Test.YtmjdmojommggjaaDoor03LinM
import Derived.Test.YtmjdmojommggjaaDoor03RFlip
import Derived.Test.YtmjdmojommggjaaDoor03LawSeals
namespace Go.Proofs.YtmjdmojommggjaaDoor
open Go.RowKit
set_option linter.unusedVariables false
set_option linter.unusedSimpArgs false

theorem run_min3 (ts : Array TypeId) (t : TypeId) (x y z n : Int) (h1 : n ≤ x) (h2 : n ≤ y) (h3 : n ≤ z) (h4 : n = x ∨ n = y ∨ n = z) (w : World) : (Builtin.min_ ts t #[.int .i64 x, .int .i64 y, .int .i64 z]).run Tryd.prog w = .ok (.int .i64 n) w := by
  have e1 : (if y < x then y else x) = min x y := by split <;> omega
  have e2 : ∀ m : Int, (if z < m then z else m) = min m z := fun m => by split <;> omega
  have e3 : min (min x y) z = n := by omega
  simp [Builtin.min_, Builtin.min2, e1, e2, e3]

theorem Below.al {w0 w : World} (h : Below w0.heap.size w0 w) (o : Obj) : Below w0.heap.size w0 (w.alloc o) := h.alloc h.size o
/-- A slice of one cell in a block of its own. -/
def IsB (x : Value) : Value → World → Prop := fun v w => ∃ B, v = .slice (some ⟨B, 0, none⟩) 1 1 ∧ w.heap[B]? = some (.cells #[x] 24 (0, 0))
theorem stable_B (x : Value) : Stable (fun W W' => Below W.heap.size W W') (IsB x) := fun v w w' ⟨B, h1, h2⟩ hE => ⟨B, h1, (hE.block _ (Array.getElem?_eq_some_iff.1 h2).1).trans h2⟩
theorem linear_big (la lb lc : List Int) (a b c : Option Addr) (ca cb cc : Nat) (w : World) (hT : Tab w) (n : Nat) (hn : 1000 < n) (h1 : n ≤ la.length) (h2 : n ≤ lb.length) (h3 : n ≤ lc.length) (h4 : n = la.length ∨ n = lb.length ∨ n = lc.length) (m1 : la.length ≤ 9223372036854775807) (m2 : lb.length ≤ 9223372036854775807) (m3 : lc.length ≤ 9223372036854775807) :
    Calls Tryd.prog 8 #[.slice a la.length ca, .slice b lb.length cb, .slice c lc.length cc] w (Gives (.bool true) w) := by
  have ha := alive03_any w hT
  have hmin := fun ts t => run_min3 ts t la.length lb.length lc.length n (by omega) (by omega) (by omega) (by omega)
  clear hT h1 h2 h3 h4
  go_enter Tryd.func8, Tryd.ntmps8
  go_wp2_with fail
  refine (HeldW.call (s := HeldW.start w) ha).mono ?_
  rintro e _ ⟨rfl, s1, rfl⟩
  clear ha
  go_wp2
  go_ret
  exact ⟨rfl, s1.below⟩

set_option maxRecDepth 100000 in
set_option maxHeartbeats 8000000 in
theorem linear_small (la lb lc : List Int) (a b c : Option Addr) (ca cb cc : Nat) (w : World) (hT : Tab w) (n : Nat) (hn : n ≤ 1000) (h1 : n ≤ la.length) (h2 : n ≤ lb.length) (h3 : n ≤ lc.length) (h4 : n = la.length ∨ n = lb.length ∨ n = lc.length)
    (ha : BytesIn w a la ca) (hb : BytesIn w b lb cb) (hc : BytesIn w c lc cc) (oa : OkB la) (ob : OkB lb) (oc : OkB lc) :
    Calls Tryd.prog 8 #[.slice a la.length ca, .slice b lb.length cb, .slice c lc.length cc] w (Gives (.bool true) w) := by
  have HT := Lib.hid hT
  have HA := Lib.hid ha
  have HB := Lib.hid hb
  have HC := Lib.hid hc
  have m1 : la.length ≤ 9223372036854775807 := Nat.le_trans ha.len ha.capb
  have m2 : lb.length ≤ 9223372036854775807 := Nat.le_trans hb.len hb.capb
  have m3 : lc.length ≤ 9223372036854775807 := Nat.le_trans hc.len hc.capb
  have hmin := fun ts t => run_min3 ts t la.length lb.length lc.length n (by omega) (by omega) (by omega) (by omega)
  have hmk := make_bytes n (by omega)
  have HX := Lib.hid (x3_walk oa ob oc)
  have HCR := Lib.hid (crc_x3 oa ob oc n h1 h2 h3)
  obtain ⟨g, s0, hg, hmk2⟩ : ∃ (g : Nat) (s0 : HeldW w [(g, .cells (byteA (x3K la lb lc n 0)) 5 (0, 0))]), w.heap.size ≤ g ∧ (Instr.makeSlice 24 (.int .i64 (n : Int)) (.int .i64 (n : Int))).run Tryd.prog w = .ok (.slice (some ⟨g, 0, none⟩) n n) s0.w :=
    ⟨w.heap.size, (HeldW.start w).push _, Nat.le_refl _, by rw [hmk w, ← x3K_zero la lb lc n]⟩
  obtain ⟨A1, hA1, hb1⟩ := cutb_h ha n h1
  obtain ⟨A2, hA2, hb2⟩ := cutb_h hb n h2
  obtain ⟨A3, hA3, hb3⟩ := cutb_h hc n h3
  have H1 := Lib.hid hb1
  have H2 := Lib.hid hb2
  have H3 := Lib.hid hb3
  have HLA := Lib.hid h1
  have HLB := Lib.hid h2
  have HLC := Lib.hid h3
  have HL1 := Lib.hid (show (la.take n).length = n by rw [List.length_take]; omega)
  have HL2 := Lib.hid (show (lb.take n).length = n by rw [List.length_take]; omega)
  have HL3 := Lib.hid (show (lc.take n).length = n by rw [List.length_take]; omega)
  generalize h5 : la.length = na at *
  generalize h6 : lb.length = nb1 at *
  generalize h7 : lc.length = nc at *
  have H5 := Lib.hid h5
  have H6 := Lib.hid h6
  have H7 := Lib.hid h7
  clear hT ha hb hc hmk hb1 hb2 hb3 h1 h2 h3 h4 h5 h6 h7 oa ob oc
  go_enter Tryd.func8, Tryd.ntmps8
  go_wp2
  clear hmin hmk2
  go_loopw [9, 24] (fun _ i wr => ∃ k : Nat, k ≤ n ∧ i = .int .i64 k ∧ ∃ s : HeldW w [(g, .cells (byteA (x3K la lb lc n k)) 5 (0, 0))], wr = s.w) (fun _ i _ => n - (intOf i).toNat)
  case atStart => exact ⟨0, by omega, rfl, s0, rfl⟩
  case round =>
    clear s0
    obtain ⟨k, hk, rfl, s, rfl⟩ := hrel
    by_cases hlt : k < n
    · obtain ⟨ba, oa, rfl, hca⟩ := HA.out.cells (by have := HLA.out; have := H5.out; omega)
      obtain ⟨bb, ob, rfl, hcb⟩ := HB.out.cells (by have := HLB.out; have := H6.out; omega)
      obtain ⟨bc, oc, rfl, hcc⟩ := HC.out.cells (by have := HLC.out; have := H7.out; omega)
      have c1 : ∀ s : HeldW w [(g, .cells (byteA (x3K la lb lc n k)) 5 (0, 0))], s.w.cell? ⟨ba, oa + k, none⟩ = some (.int .u8 (la[k]?.getD 0)) := fun s => by
        have h := hca k (by have := HLA.out; have := H5.out; omega)
        exact (s.below.cell (p := ⟨ba, oa + k, none⟩) (World.block_lt_of_cell? _ _ h)).trans h
      have c2 : ∀ s : HeldW w [(g, .cells (byteA (x3K la lb lc n k)) 5 (0, 0))], s.w.cell? ⟨bb, ob + k, none⟩ = some (.int .u8 (lb[k]?.getD 0)) := fun s => by
        have h := hcb k (by have := HLB.out; have := H6.out; omega)
        exact (s.below.cell (p := ⟨bb, ob + k, none⟩) (World.block_lt_of_cell? _ _ h)).trans h
      have c3 : ∀ s : HeldW w [(g, .cells (byteA (x3K la lb lc n k)) 5 (0, 0))], s.w.cell? ⟨bc, oc + k, none⟩ = some (.int .u8 (lc[k]?.getD 0)) := fun s => by
        have h := hcc k (by have := HLC.out; have := H7.out; omega)
        exact (s.below.cell (p := ⟨bc, oc + k, none⟩) (World.block_lt_of_cell? _ _ h)).trans h
      have hx := HX.out k
      have hka : (k : Int) < (na : Int) := by have := HLA.out; omega
      have hkb : (k : Int) < (nb1 : Int) := by have := HLB.out; omega
      have hkc : (k : Int) < (nc : Int) := by have := HLC.out; omega
      have HS := Lib.hid (show (byteA (x3K la lb lc n k)).setIfInBounds k (.int .u8 (x3 la lb lc k)) = byteA (x3K la lb lc n (k + 1)) by rw [byteA_set, x3K_set la lb lc hlt])
      have HZ := Lib.hid (show (byteA (x3K la lb lc n k))[k]? = some (.int .u8 ((x3K la lb lc n k)[k]?.getD 0)) from byteA_get _ (by rw [x3K_length la lb lc hk]; exact hlt))
      generalize la[k]?.getD 0 = va at c1 hx
      generalize lb[k]?.getD 0 = vb at c2 hx
      generalize lc[k]?.getD 0 = vc at c3 hx
      generalize x3 la lb lc k = vx at hx HS
      clear hca hcb hcc
      go_wp2
      refine wp_region_class_tail 17 _ _ (by kernel_rfl) (by kernel_rfl) s.below s.blocks (fun hne => ?_)
      simp only [List.take_succ_cons, List.take_zero, List.drop_succ_cons, List.drop_zero]
      clear s
      repeat (go_big_quiet_step (fail))
      refine wpQuiet_nil ?_
      rintro _ ⟨s, rfl⟩
      clear hne c1 c2 c3 hx
      have hblk : s.w.heap[g]? = some (.cells (byteA (x3K la lb lc n k)) 5 (0, 0)) := s.blocks (_, _) List.mem_cons_self
      have hcell := (cell_of hblk k).trans HZ.out
      have hfree := free_of hblk k
      clear hblk
      go_wp2
      go_roundw
      case rel => exact ⟨k + 1, by omega, by go_num, s.store hg (by simp) HS.out, rfl⟩
      case measure => simp [intOf]; omega
    · obtain rfl : k = n := by omega
      have hTs := HT.out.W s
      have hblk0 : s.w.heap[g]? = some (.cells (byteA (x3K la lb lc k k)) 5 (0, 0)) := s.blocks (_, _) List.mem_cons_self
      have hblk : s.w.heap[g]? = some (.cells (byteA (x3L la lb lc k)) 5 (0, 0)) := hblk0.trans (by rw [x3K_end])
      have hx0 := bytesIn_block hblk (by rw [x3L_length]; omega)
      rw [x3L_length] at hx0
      have hof : ∀ (X : Option Addr) (l : List Int) (cap : Nat), BytesIn s.w X l cap → l.length = k → ∀ W B, W.heap[B]? = some (.cells #[.slice X k cap] 24 (0, 0)) → Below s.w.heap.size s.w W →
          Calls Tryd.prog 10 #[.slice (some ⟨B, 0, none⟩) 1 1] W fun e w' => e = .returned (.int .u32 (crc l : Int)) ∧ w' = W := fun X l cap hX hl W B hB hW => by
        have h := cof_any [l] (some ⟨B, 0, none⟩) 1 W (hTs.below hW) (partsIn1 (by rw [hl]; exact hB) (hX.below hW))
        rwa [show ([l] : List (List Int)).flatten = l by simp] at h
      have o0 := hof _ _ _ hx0 (x3L_length la lb lc k)
      have o1 := hof _ _ _ (H1.out.W s) HL1.out
      have o2 := hof _ _ _ (H2.out.W s) HL2.out
      have o3 := hof _ _ _ (H3.out.W s) HL3.out
      have hcr : bits .xor .u32 (bits .xor .u32 (crc (la.take k) : Int) (crc (lb.take k) : Int)) (crc (lc.take k) : Int) = (crc (x3L la lb lc k) : Int) := by
        rw [bits_xor32 (crc_lt _) (crc_lt _), bits_xor32 (xor32 (crc_lt _) (crc_lt _)) (crc_lt _), HCR.out]
      generalize crc (x3L la lb lc k) = C0 at o0 hcr
      generalize crc (la.take k) = C1 at o1 hcr
      generalize crc (lb.take k) = C2 at o2 hcr
      generalize crc (lc.take k) = C3 at o3 hcr
      have hal := fun W (hW : Below s.w.heap.size s.w W) => alive03_any W (hTs.below hW)
      have HSB := Lib.hid s.below
      generalize s.w = w1 at *
      clear hTs hblk hblk0 hx0 hof s
      go_wp2
      obtain ⟨C12, hc12⟩ : ∃ c, c = bits .xor .u32 (C1 : Int) (C2 : Int) := ⟨_, rfl⟩
      rw [← hc12] at hcr
      have O0 := Lib.hid o0
      have O1 := Lib.hid o1
      have O2 := Lib.hid o2
      have O3 := Lib.hid o3
      have HAL := Lib.hid hal
      clear o0 o1 o2 o3 hal
      refine wp_region_loose
        [IsV (.bool true), IsV (.bool true), IsV (.slice (some ⟨g, 0, none⟩) k k), IsB (.slice (some ⟨g, 0, none⟩) k k), IsV (.int .u32 C0),
         IsV (.slice a na ca), IsV (.int .i64 k), IsV (.slice A1 k ca), IsB (.slice A1 k ca), IsV (.int .u32 C1),
         IsV (.slice b nb1 cb), IsV (.int .i64 k), IsV (.slice A2 k cb), IsB (.slice A2 k cb), IsV (.int .u32 C2), IsV (.int .u32 C12),
         IsV (.slice c nc cc), IsV (.int .i64 k), IsV (.slice A3 k cc), IsB (.slice A3 k cc), IsV (.int .u32 C3), IsV (.int .u32 C0),
         IsV (.bool true), IsV (.bool true), IsV (.bool true)]
        [⟨45, [], []⟩, ⟨46, [(0, 45)], []⟩, ⟨47, [(1, 46)], [8]⟩, ⟨48, [(1, 46), (2, 47)], []⟩, ⟨49, [(1, 46), (3, 48)], []⟩,
         ⟨50, [(1, 46)], [0]⟩, ⟨51, [(1, 46)], [7]⟩, ⟨52, [(1, 46), (5, 50), (6, 51)], []⟩, ⟨53, [(1, 46), (7, 52)], []⟩, ⟨54, [(1, 46), (8, 53)], []⟩,
         ⟨55, [(1, 46)], [1]⟩, ⟨56, [(1, 46)], [7]⟩, ⟨57, [(1, 46), (10, 55), (11, 56)], []⟩, ⟨58, [(1, 46), (12, 57)], []⟩, ⟨59, [(1, 46), (13, 58)], []⟩, ⟨60, [(1, 46), (9, 54), (14, 59)], []⟩,
         ⟨61, [(1, 46)], [2]⟩, ⟨62, [(1, 46)], [7]⟩, ⟨63, [(1, 46), (16, 61), (17, 62)], []⟩, ⟨64, [(1, 46), (18, 63)], []⟩, ⟨65, [(1, 46), (19, 64)], []⟩, ⟨66, [(1, 46), (15, 60), (20, 65)], []⟩,
         ⟨67, [(1, 46), (4, 49), (21, 66)], []⟩, ⟨68, [(1, 46), (22, 67)], []⟩, ⟨6, [(23, 68)], []⟩]
        (fun W => Below w1.heap.size w1 W) (fun W W' => Below W.heap.size W W') (by kernel_rfl) (by kernel_rfl) rfl rfl (Below.refl _ w1).drew ?_
        ⟨?_, ?_, ?_, ?_, ?_, ?_, ?_, ?_, ?_, ?_, ?_, ?_, ?_, ?_, ?_, ?_, ?_, ?_, ?_, ?_, ?_, ?_, ?_, ?_, ?_, trivial⟩ ?_
      · repeat (first | (intro _ h; cases h; done) | refine List.forall_mem_cons.2 ⟨stable_V _ _, ?_⟩ | refine List.forall_mem_cons.2 ⟨stable_B _, ?_⟩)
      · intro A W hC hd hx
        refine ⟨fun g hg => (by cases hg), ?_⟩
        refine loose_call rfl Tryd.func9 (by kernel_rfl) (by kernel_rfl) ?_
        simp only [Array.map_empty]
        refine (HAL.out W hC).mono ?_
        rintro e W' ⟨rfl, hE⟩
        exact ⟨_, rfl, rfl, hC.trans (hE.mono hC.size), hE⟩
      · intro A W hC hd hx
        have hk : ∀ v, A.eval (.const v) = v := fun _ => rfl
        simp [factOf] at hd
        generalize A.eval = ρ at hd hk ⊢
        simp [go_sem, looseUpon, factOf, hd, hk]
        exact ⟨hC, Below.refl _ _⟩
      · intro A W hC hd hx
        have hk : ∀ v, A.eval (.const v) = v := fun _ => rfl
        have hy : A.eval (.tmp 8) = .slice (some ⟨g, 0, none⟩) k k := hx 8 (by simp)
        simp [factOf] at hd
        generalize A.eval = ρ at hd hk hy ⊢
        simp [go_sem, looseUpon, factOf, hd, hk, hy]
        exact ⟨hC, Below.refl _ _⟩
      · intro A W hC hd hx
        have hk : ∀ v, A.eval (.const v) = v := fun _ => rfl
        simp [factOf] at hd
        generalize A.eval = ρ at hd hk ⊢
        simp [go_sem, looseUpon, factOf, hd, hk]
        exact ⟨⟨_, rfl, World.alloc_heap_new _ _⟩, hC.alloc hC.size _, (Below.refl _ _).alloc (Nat.le_refl _) _⟩
      · intro A W hC hd hx
        simp [factOf] at hd
        refine ⟨fun g hg q hq hq2 => ?_, ?_⟩
        · cases hg; simp at hq; rcases hq with rfl | rfl <;> first | exact hd.1 | cases hq2
        · obtain ⟨h46, B, hB, hBw⟩ := hd
          refine loose_call rfl Tryd.func10 (by kernel_rfl) (by kernel_rfl) ?_
          simp only [List.map_toArray, List.map_cons, List.map_nil, hB]
          refine (O0.out W B hBw hC).mono ?_
          rintro e W' ⟨rfl, rfl⟩
          exact ⟨_, rfl, rfl, hC, Below.refl _ _⟩
      · intro A W hC hd hx
        have hk : ∀ v, A.eval (.const v) = v := fun _ => rfl
        have hy : A.eval (.tmp 0) = .slice a na ca := hx 0 (by simp)
        simp [factOf] at hd
        generalize A.eval = ρ at hd hk hy ⊢
        simp [go_sem, looseUpon, factOf, hd, hk, hy]
        exact ⟨hC, Below.refl _ _⟩
      · intro A W hC hd hx
        have hk : ∀ v, A.eval (.const v) = v := fun _ => rfl
        have hy : A.eval (.tmp 7) = .int .i64 k := hx 7 (by simp)
        simp [factOf] at hd
        generalize A.eval = ρ at hd hk hy ⊢
        simp [go_sem, looseUpon, factOf, hd, hk, hy]
        exact ⟨hC, Below.refl _ _⟩
      · intro A W hC hd hx
        have hk : ∀ v, A.eval (.const v) = v := fun _ => rfl
        simp [factOf] at hd
        generalize A.eval = ρ at hd hk ⊢
        simp [go_sem, looseUpon, factOf, hd, hk, hA1]
        exact ⟨hC, Below.refl _ _⟩
      · intro A W hC hd hx
        have hk : ∀ v, A.eval (.const v) = v := fun _ => rfl
        simp [factOf] at hd
        generalize A.eval = ρ at hd hk ⊢
        simp [go_sem, looseUpon, factOf, hd, hk]
        exact ⟨⟨_, rfl, World.alloc_heap_new _ _⟩, hC.alloc hC.size _, (Below.refl _ _).alloc (Nat.le_refl _) _⟩
      · intro A W hC hd hx
        simp [factOf] at hd
        refine ⟨fun g hg q hq hq2 => ?_, ?_⟩
        · cases hg; simp at hq; rcases hq with rfl | rfl <;> first | exact hd.1 | cases hq2
        · obtain ⟨h46, B, hB, hBw⟩ := hd
          refine loose_call rfl Tryd.func10 (by kernel_rfl) (by kernel_rfl) ?_
          simp only [List.map_toArray, List.map_cons, List.map_nil, hB]
          refine (O1.out W B hBw hC).mono ?_
          rintro e W' ⟨rfl, rfl⟩
          exact ⟨_, rfl, rfl, hC, Below.refl _ _⟩
      · intro A W hC hd hx
        have hk : ∀ v, A.eval (.const v) = v := fun _ => rfl
        have hy : A.eval (.tmp 1) = .slice b nb1 cb := hx 1 (by simp)
        simp [factOf] at hd
        generalize A.eval = ρ at hd hk hy ⊢
        simp [go_sem, looseUpon, factOf, hd, hk, hy]
        exact ⟨hC, Below.refl _ _⟩
      · intro A W hC hd hx
        have hk : ∀ v, A.eval (.const v) = v := fun _ => rfl
        have hy : A.eval (.tmp 7) = .int .i64 k := hx 7 (by simp)
        simp [factOf] at hd
        generalize A.eval = ρ at hd hk hy ⊢
        simp [go_sem, looseUpon, factOf, hd, hk, hy]
        exact ⟨hC, Below.refl _ _⟩
      · intro A W hC hd hx
        have hk : ∀ v, A.eval (.const v) = v := fun _ => rfl
        simp [factOf] at hd
        generalize A.eval = ρ at hd hk ⊢
        simp [go_sem, looseUpon, factOf, hd, hk, hA2]
        exact ⟨hC, Below.refl _ _⟩
      · intro A W hC hd hx
        have hk : ∀ v, A.eval (.const v) = v := fun _ => rfl
        simp [factOf] at hd
        generalize A.eval = ρ at hd hk ⊢
        simp [go_sem, looseUpon, factOf, hd, hk]
        exact ⟨⟨_, rfl, World.alloc_heap_new _ _⟩, hC.alloc hC.size _, (Below.refl _ _).alloc (Nat.le_refl _) _⟩
      · intro A W hC hd hx
        simp [factOf] at hd
        refine ⟨fun g hg q hq hq2 => ?_, ?_⟩
        · cases hg; simp at hq; rcases hq with rfl | rfl <;> first | exact hd.1 | cases hq2
        · obtain ⟨h46, B, hB, hBw⟩ := hd
          refine loose_call rfl Tryd.func10 (by kernel_rfl) (by kernel_rfl) ?_
          simp only [List.map_toArray, List.map_cons, List.map_nil, hB]
          refine (O2.out W B hBw hC).mono ?_
          rintro e W' ⟨rfl, rfl⟩
          exact ⟨_, rfl, rfl, hC, Below.refl _ _⟩
      · intro A W hC hd hx
        have hk : ∀ v, A.eval (.const v) = v := fun _ => rfl
        simp [factOf] at hd
        generalize A.eval = ρ at hd hk ⊢
        simp [go_sem, looseUpon, factOf, hd, hk]
        exact ⟨hc12.symm, hC, Below.refl _ _⟩
      · intro A W hC hd hx
        have hk : ∀ v, A.eval (.const v) = v := fun _ => rfl
        have hy : A.eval (.tmp 2) = .slice c nc cc := hx 2 (by simp)
        simp [factOf] at hd
        generalize A.eval = ρ at hd hk hy ⊢
        simp [go_sem, looseUpon, factOf, hd, hk, hy]
        exact ⟨hC, Below.refl _ _⟩
      · intro A W hC hd hx
        have hk : ∀ v, A.eval (.const v) = v := fun _ => rfl
        have hy : A.eval (.tmp 7) = .int .i64 k := hx 7 (by simp)
        simp [factOf] at hd
        generalize A.eval = ρ at hd hk hy ⊢
        simp [go_sem, looseUpon, factOf, hd, hk, hy]
        exact ⟨hC, Below.refl _ _⟩
      · intro A W hC hd hx
        have hk : ∀ v, A.eval (.const v) = v := fun _ => rfl
        simp [factOf] at hd
        generalize A.eval = ρ at hd hk ⊢
        simp [go_sem, looseUpon, factOf, hd, hk, hA3]
        exact ⟨hC, Below.refl _ _⟩
      · intro A W hC hd hx
        have hk : ∀ v, A.eval (.const v) = v := fun _ => rfl
        simp [factOf] at hd
        generalize A.eval = ρ at hd hk ⊢
        simp [go_sem, looseUpon, factOf, hd, hk]
        exact ⟨⟨_, rfl, World.alloc_heap_new _ _⟩, hC.alloc hC.size _, (Below.refl _ _).alloc (Nat.le_refl _) _⟩
      · intro A W hC hd hx
        simp [factOf] at hd
        refine ⟨fun g hg q hq hq2 => ?_, ?_⟩
        · cases hg; simp at hq; rcases hq with rfl | rfl <;> first | exact hd.1 | cases hq2
        · obtain ⟨h46, B, hB, hBw⟩ := hd
          refine loose_call rfl Tryd.func10 (by kernel_rfl) (by kernel_rfl) ?_
          simp only [List.map_toArray, List.map_cons, List.map_nil, hB]
          refine (O3.out W B hBw hC).mono ?_
          rintro e W' ⟨rfl, rfl⟩
          exact ⟨_, rfl, rfl, hC, Below.refl _ _⟩
      · intro A W hC hd hx
        have hk : ∀ v, A.eval (.const v) = v := fun _ => rfl
        simp [factOf] at hd
        generalize A.eval = ρ at hd hk ⊢
        simp [go_sem, looseUpon, factOf, hd, hk]
        exact ⟨hcr, hC, Below.refl _ _⟩
      · intro A W hC hd hx
        have hk : ∀ v, A.eval (.const v) = v := fun _ => rfl
        simp [factOf] at hd
        generalize A.eval = ρ at hd hk ⊢
        simp [go_sem, looseUpon, factOf, hd, hk]
        exact ⟨hC, Below.refl _ _⟩
      · intro A W hC hd hx
        have hk : ∀ v, A.eval (.const v) = v := fun _ => rfl
        simp [factOf] at hd
        generalize A.eval = ρ at hd hk ⊢
        simp [go_sem, looseUpon, factOf, hd, hk]
        exact ⟨hC, Below.refl _ _⟩
      · intro A W hC hd hx
        have hk : ∀ v, A.eval (.const v) = v := fun _ => rfl
        simp [factOf] at hd
        generalize A.eval = ρ at hd hk ⊢
        simp [go_sem, looseUpon, factOf, hd, hk]
        exact ⟨hC, Below.refl _ _⟩
      · intro W hC
        simp only [ends]
        rintro _ rfl _ rfl _ rfl _ ⟨B0, rfl, hB0⟩ _ rfl _ rfl _ rfl _ rfl _ ⟨B1, rfl, hB1⟩ _ rfl _ rfl _ rfl _ rfl _ ⟨B2, rfl, hB2⟩ _ rfl _ rfl _ rfl _ rfl _ rfl _ ⟨B3, rfl, hB3⟩ _ rfl _ rfl _ rfl _ rfl _ rfl
        simp only [putAll, List.zip_cons_cons, List.zip_nil_left, List.foldl_cons, List.foldl_nil, Act.put, List.setIfInBounds_toArray, List.set_cons_succ, List.set_cons_zero]
        go_wp2
        go_ret
        exact ⟨rfl, HSB.out.trans (hC.mono HSB.out.size)⟩

theorem checkLinear_walk (a : Option Addr) (la : List Int) (ca : Nat) (b : Option Addr) (lb : List Int) (cb : Nat) (c : Option Addr) (lc : List Int) (cc : Nat) (w : World) (hT : Tab w) (ha : BytesIn w a la ca) (oa : OkB la) (hb : BytesIn w b lb cb) (ob : OkB lb) (hc : BytesIn w c lc cc) (oc : OkB lc) :
    Calls Tryd.prog 8 #[.slice a la.length ca, .slice b lb.length cb, .slice c lc.length cc] w (Gives (.bool true) w) := by
  obtain ⟨n, h1, h2, h3, h4⟩ : ∃ n, n ≤ la.length ∧ n ≤ lb.length ∧ n ≤ lc.length ∧ (n = la.length ∨ n = lb.length ∨ n = lc.length) := ⟨min (min la.length lb.length) lc.length, by omega, by omega, by omega, by omega⟩
  by_cases h : n ≤ 1000
  · exact linear_small la lb lc a b c ca cb cc w hT n h h1 h2 h3 h4 ha hb hc oa ob oc
  · exact linear_big la lb lc a b c ca cb cc w hT n (by omega) h1 h2 h3 h4 (Nat.le_trans ha.len ha.capb) (Nat.le_trans hb.len hb.capb) (Nat.le_trans hc.len hc.capb)
end Go.Proofs.YtmjdmojommggjaaDoor
