/- ShaNil returns true for all bytes, and changes nothing that was there. -/
import Derived.Test.YtnpcocjjmajifaaDoor02LawClones
namespace Go.Proofs.YtnpcocjjmajifaaDoor
open Go.RowKit
set_option linter.unusedVariables false

theorem nil_big (l : List Int) (a : Option Addr) (cap : Nat) (w : World) (hR : Roots w) (hbig : 200 < l.length) (hmax : l.length ≤ 9223372036854775807) : Calls Tryd.prog 8 #[.slice a l.length cap] w (Gives (.bool true) w) := by
  have ha := alive_any w hR
  clear hR
  go_enter Tryd.func8, Tryd.ntmps8
  go_wp2_with fail
  refine (HeldW.call (s := HeldW.start w) ha).mono ?_
  rintro e _ ⟨rfl, s1, rfl⟩
  clear ha
  go_wp2
  go_ret
  exact ⟨rfl, s1.below⟩

/-- What an owned slice looks like. -/
theorem OwnW.view {w0 : World} {e : TypeId} {v : Value} {xs : List Value} (s : OwnW w0 e v xs) (n : Nat) (hn : xs.length = n) : ∃ (a : Option Addr) (cap : Nat), v = .slice a n cap ∧ n ≤ cap ∧ cap ≤ 9223372036854775807 ∧
    Hid (0 < n → ∃ (g : Nat) (cur : Array Value), a = some ⟨g, 0, none⟩ ∧ w0.heap.size ≤ g ∧ s.w.heap[g]? = some (.cells cur e (0, 0)) ∧ ∀ (j : Nat) (u : Value), xs[j]? = some u → cur[j]? = some u) := by
  subst hn
  rcases s.own.2 with ⟨h1, h0⟩ | ⟨g, cap, cur, rfl, hg, hb, hc, hm, _, ht⟩
  · exact ⟨none, 0, by rw [h1, h0], by omega, by omega, fun h => by omega⟩
  · refine ⟨_, cap, rfl, hc, by unfold maxLen at hm; omega, fun _ => ⟨g, cur, rfl, hg, hb, fun j u hu => ?_⟩⟩
    have := s.own.cells (g := g) rfl j u hu
    rw [Addr.add_mid, Nat.zero_add, cell_of hb] at this
    exact this
/-- An empty literal. -/
theorem own_empty (w : World) : ∃ s : OwnW w 5 (.slice (some ⟨w.heap.size, 0, none⟩) 0 0) [], w.alloc (.cells #[] 5) = s.w :=
  ⟨⟨_, (Below.refl _ w).alloc (Nat.le_refl _) _, by
    have := World.ownsRow_made (base := w.heap.size) (e := 5) (size := 1) w #[] 0 (Nat.le_refl _) (by unfold maxLen; omega) rfl
    simpa using this⟩, rfl⟩

set_option maxRecDepth 100000 in
set_option maxHeartbeats 8000000 in
theorem nil_small (l : List Int) (a : Option Addr) (cap : Nat) (w : World) (hR : Roots w) (hb : BytesIn w a l cap) (hsmall : l.length ≤ 200) : Calls Tryd.prog 8 #[.slice a l.length cap] w (Gives (.bool true) w) := by
  have HR := Lib.hid hR
  have HB := Lib.hid hb
  have hgt := guard_arr
  have hml : l.length = (l.map (Value.int .u8)).length := (List.length_map _).symm
  have HML := Lib.hid hml
  obtain ⟨E⟩ := elem_of (P := Tryd.prog) (t := 22) (e := 5) (z := .int .u8 0) (n := 1) Tryd.underlying22 (by kernel_rfl) rfl (by omega)
  have HLL := Lib.hid (show ([] ++ l.map (Value.int .u8)).length = l.length by simp)
  clear hR hb hml
  go_enter Tryd.func8, Tryd.ntmps8
  go_wp2_with fail
  refine (HeldW.makes (s := HeldW.start w) (new_any _)).mono ?_
  rintro e _ ⟨g, o, rfl, hg, hgb, hi, s1, rfl⟩
  obtain ⟨so, hso⟩ := own_empty s1.w
  have HSO := Lib.hid hso
  have HN := Lib.hid (show a = none → l.length = 0 ∧ cap = 0 from fun h => ⟨by have := HB.out.nil h; have := HB.out.len; omega, HB.out.nil h⟩)
  have HSRC := Lib.hid (show ∀ ad, a = some ad → ∀ j u, (l.map (Value.int .u8))[j]? = some u → so.w.cell? (ad.add j) = some u from fun ad had j u hu => by
    have hj := (List.getElem?_eq_some_iff.1 hu).1
    rw [List.length_map] at hj
    obtain ⟨b, o, h1, hc⟩ := (HeldW.src HB.out hg s1) (by omega)
    obtain rfl := Option.some.inj (had.symm.trans h1)
    have hcj := hc.2 j hj
    rw [Addr.add_mid, so.below.cell (p := ⟨b, o + j, none⟩) (World.block_lt_of_cell? _ _ hcj), hcj]
    rw [List.getElem?_map] at hu
    obtain ⟨x, hx, rfl⟩ := Option.map_eq_some_iff.1 hu
    rw [hx]; rfl)
  clear hso
  go_wp2_with (rw [HSO.out]; refine wpList_append_src E so (l.map (Value.int .u8)) (.tmp 14) (.tmp 15) rfl rfl rfl a l.length cap HML.out rfl HN.out HSRC.out (one_bytes _) (by rw [List.length_map]; simp; omega) ?_; intro v' s2; obtain ⟨a2, cap2, rfl, hc2, hcb2, hrow⟩ := s2.view l.length HLL.out)
  have hlg := (Array.getElem?_eq_some_iff.1 (s1.blocks (g, o) List.mem_cons_self)).1
  simp only at hlg
  have hs1g := s1.blocks (g, o) List.mem_cons_self
  have hb2 := s1.below.trans (s2.below.mono s1.below.size)
  obtain ⟨bsx, hbx, HX, s3, hs3⟩ : ∃ bsx : List (Nat × Obj), Hid (∀ p ∈ bsx, p.1 ≠ g) ∧ Hid (0 < l.length → ∃ (gO : Nat) (cur : Array Value), a2 = some ⟨gO, 0, none⟩ ∧ w.heap.size ≤ gO ∧ gO ≠ g ∧ bsx = [(gO, .cells cur 5 (0, 0))] ∧ ∀ j, j < l.length → cur[j]? = some (.int .u8 (l[j]?.getD 0))) ∧
      ∃ s3 : HeldW w ((g, o) :: bsx), s2.w = s3.w := by
    by_cases hn : 0 < l.length
    · obtain ⟨gO, cur, ha2, hgO, hblk, hcells⟩ := hrow.out hn
      refine ⟨[(gO, .cells cur 5 (0, 0))], all1 (Q := fun p : Nat × Obj => p.1 ≠ g) (by simp only; omega), fun _ => ⟨gO, cur, ha2, Nat.le_trans s1.below.size hgO, by omega, rfl, fun j hj => hcells j _ (by rw [List.nil_append, List.getElem?_map, List.getElem?_eq_getElem hj]; rfl)⟩,
        ⟨s2.w, hb2, all2 ((s2.below.block g hlg).trans hs1g) hblk⟩, rfl⟩
    · exact ⟨[], fun _ h => by simp at h, fun h => absurd h hn, ⟨s2.w, hb2, all1 ((s2.below.block g hlg).trans hs1g)⟩, rfl⟩
  rw [hs3]
  have hlt := (Array.getElem?_eq_some_iff.1 (s3.blocks (g, o) List.mem_cons_self)).1
  clear hs3 hb2 hrow HSRC HN HSO
  refine (write1 (s3.push (.cells #[.slice a2 l.length cap2] 22 (0, 0))) HR hi hg (Nat.ne_of_gt hlt) hbx.out (fun hp => by
    obtain ⟨gO, cur, rfl, hgO, hne, rfl, hcur⟩ := HX.out hp
    refine ⟨gO, 0, rfl, hne, fun i hi => ?_⟩
    rw [Nat.zero_add, cell_of ((s3.push (.cells #[.slice (some ⟨gO, 0, none⟩) l.length cap2] 22 (0, 0))).blocks (gO, .cells cur 5 (0, 0)) (by simp)), hcur i hi]) hc2 hcb2 (by rw [List.length_nil]; omega)).mono ?_
  rintro e _ ⟨rfl, o2, hi2, s4, rfl⟩
  rw [List.nil_append] at hi2
  clear hlt
  go_wp2
  go_loopw [6, 23] (fun _ i wr => ∃ k : Nat, k ≤ l.length ∧ i = .int .i64 k ∧ ∃ bsy : List (Nat × Obj), Hid (0 < l.length → ∃ (gO : Nat) (cur : Array Value), a2 = some ⟨gO, 0, none⟩ ∧ w.heap.size ≤ gO ∧ gO ≠ g ∧ bsy = [(gO, .cells cur 5 (0, 0))] ∧ ∀ j, j < l.length → ∃ x : Int, cur[j]? = some (.int .u8 x)) ∧
      ∃ s : HeldW w ((g, o2) :: bsy), wr = s.w) (fun _ i _ => l.length - (intOf i).toNat)
  case atStart => exact ⟨0, by omega, rfl, bsx, Lib.hid (fun hp => by obtain ⟨gO, cur, h1, h2, h3, h4, h5⟩ := HX.out hp; exact ⟨gO, cur, h1, h2, h3, h4, fun j hj => ⟨_, h5 j hj⟩⟩), s4, rfl⟩
  case round =>
    clear HX hbx
    obtain ⟨k, hk, rfl, bsy, hY, s5, rfl⟩ := hrel
    by_cases hlt : k < l.length
    · obtain ⟨gO, cur, rfl, hgO, hne, rfl, hcur⟩ := hY.out (by omega)
      obtain ⟨x, hx⟩ := hcur k hlt
      have hblk : s5.w.heap[gO]? = some (.cells cur 5 (0, 0)) := s5.blocks (gO, _) (by simp)
      have hcell : s5.w.cell? ⟨gO, k, none⟩ = some (.int .u8 x) := by rw [cell_of hblk, hx]
      have hfree := free_of hblk k
      have HCUR := Lib.hid hcur
      clear hblk hcur hx
      go_wp2
      go_roundw
      case rel =>
        refine ⟨k + 1, by omega, by go_num, [(gO, .cells (cur.setIfInBounds k (.int .u8 ((x + 1) % 256))) 5 (0, 0))], Lib.hid (fun _ => ⟨gO, _, rfl, hgO, hne, rfl, fun j hj => ?_⟩),
          ((s5.sub (bs' := [(gO, .cells cur 5 (0, 0)), (g, o2)]) (by simp)).store hgO (all1 (Q := fun p : Nat × Obj => p.1 ≠ gO) (fun h => hne h.symm)) rfl).sub (by simp), rfl⟩
        obtain ⟨y, hy⟩ := HCUR.out j hj
        have hs := (Array.getElem?_eq_some_iff.1 hy).1
        by_cases hjk : k = j
        · exact ⟨(x + 1) % 256, by rw [Array.getElem?_setIfInBounds, if_pos hjk, if_pos (by omega)]⟩
        · exact ⟨y, by rw [Array.getElem?_setIfInBounds, if_neg hjk]; exact hy⟩
      case measure => simp [intOf]; omega
    · obtain rfl : k = l.length := by omega
      obtain ⟨s5b, hs5⟩ : ∃ s : HeldW w [(g, o2)], s5.w = s.w := ⟨s5.sub (by simp), rfl⟩
      rw [hs5]
      clear hs5 hY
      have hal := HeldW.call (s := s5b) (alive_any s5b.w (HR.out.W s5b))
      go_wp2_with fail
      refine hal.mono ?_
      rintro e _ ⟨rfl, s6, rfl⟩
      clear hal
      have hsu := HeldW.call (s := s6) (sum_any g l o2 s6.w hi2.out (s6.blocks (g, o2) (by simp)) (HR.out.W s6) (by omega))
      have hD := Lib.hid (shaL_length l)
      have hof := fun (s : HeldW w [(g, o2)]) => of1 s HR (HeldW.src HB.out) HB.out.len HB.out.capb (by omega)
      generalize shaL l = D at hsu hD hof
      have heq := equal_same D hD.out
      have heq0 := equal_same zeroD rfl
      have hza := zero_arr
      go_wp2_with fail
      refine hsu.mono ?_
      rintro e _ ⟨rfl, s7, rfl⟩
      clear hsu
      go_wp2_with fail
      refine (hof s7).mono ?_
      rintro e _ ⟨rfl, s8, rfl⟩
      clear hof
      go_wp2_with fail
      refine (HeldW.call (s := s8.push (.cells #[.slice a l.length cap] 22 (0, 0))) (gives_same (write_nil _ _ _ _))).mono ?_
      rintro e _ ⟨rfl, s9, rfl⟩
      go_wp2_with fail
      refine (HeldW.call (s := s9) (sum_nil _)).mono ?_
      rintro e _ ⟨rfl, s10, rfl⟩
      go_wp2_with (first | (refine wpList_buildTo rfl 24 _ rfl (some 52) rfl (byteA zeroD) (by kernel_rfl) ?_) | fail)
      refine (HeldW.call (s := s10) (gives_same (len_nil _))).mono ?_
      rintro e _ ⟨rfl, s11, rfl⟩
      go_wp2_with fail
      refine (HeldW.call (s := s11) (gives_same (clone_nil _))).mono ?_
      rintro e _ ⟨rfl, s12, rfl⟩
      go_wp2
      go_ret
      exact ⟨rfl, s12.below⟩

theorem shaNil_walk (a : Option Addr) (l : List Int) (cap : Nat) (w : World) (hR : Roots w) (hb : BytesIn w a l cap) : Calls Tryd.prog 8 #[.slice a l.length cap] w (Gives (.bool true) w) := by
  by_cases h : l.length ≤ 200
  · exact nil_small l a cap w hR hb h
  · have h1 := hb.len
    have h2 := hb.capb
    exact nil_big l a cap w hR (by omega) (by omega)
end Go.Proofs.YtnpcocjjmajifaaDoor
