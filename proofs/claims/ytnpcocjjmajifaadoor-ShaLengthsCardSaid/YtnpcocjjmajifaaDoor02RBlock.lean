/- block of the reference. -/
import Derived.Test.YtnpcocjjmajifaaDoor02Mix
import Derived.Test.YtnpcocjjmajifaaDoor02RSched
namespace Go.Proofs.YtnpcocjjmajifaaDoor
open Go.RowKit
set_option linter.unusedVariables false

theorem own_empty32 (w : World) : ∃ s : OwnW w 48 (.slice (some ⟨w.heap.size, 0, none⟩) 0 0) [], w.alloc (.cells #[] 48) = s.w :=
  ⟨⟨_, (Below.refl _ w).alloc (Nat.le_refl _) _, by
    have := World.ownsRow_made (base := w.heap.size) (e := 48) (size := 1) w #[] 0 (Nat.le_refl _) (by unfold maxLen; omega) rfl
    simpa using this⟩, rfl⟩
theorem one_words (l : List Int) : ∀ u ∈ l.map (Value.int .u32), u.oneCell' = true := fun u hu => by
  obtain ⟨x, _, rfl⟩ := List.mem_map.1 hu; rfl
/-- A literal of eight words. -/
theorem own8 {w0 : World} (u : V8) {v : Value} {xs : List Value} (s : OwnW w0 48 v xs) : ∃ s2 : OwnW w0 48 (.slice (some ⟨s.w.heap.size, 0, none⟩) 8 8) (u.list.map (Value.int .u32)),
    s.w.alloc (.cells #[.int .u32 u.a, .int .u32 u.b, .int .u32 u.c, .int .u32 u.d, .int .u32 u.e, .int .u32 u.f, .int .u32 u.g, .int .u32 u.h] 48) = s2.w :=
  ⟨⟨_, s.below.alloc s.below.size _, ⟨rfl, .inr ⟨s.w.heap.size, 8, _, rfl, s.below.size, heap_new _ _ rfl, Nat.le_refl 8, by unfold maxLen; omega, by rfl, by rfl⟩⟩⟩, rfl⟩
/-- Eight words that lie somewhere. -/
def Words (w : World) (a : Option Addr) (l : List Int) : Prop := ∃ b o, a = some ⟨b, o, none⟩ ∧ ∀ i, i < l.length → w.cell? ⟨b, o + i, none⟩ = some (.int .u32 (l[i]?.getD 0))
def sumL (v u : V8) (k : Nat) : List Int := (List.range k).map fun i => (v.at i + u.at i) % 4294967296
theorem sum8 (v u : V8) : sumL v u 8 = (addK v u 8).list := rfl

set_option maxRecDepth 100000 in
set_option maxHeartbeats 8000000 in
theorem rblock_any (v : V8) (W : List Int) (hW : W.length = 64) (gs os cs gw ow cw gk ok ck : Nat) (hcs : 8 ≤ cs) (hcs2 : cs ≤ 9223372036854775807) (hcw : 64 ≤ cw) (hcw2 : cw ≤ 9223372036854775807) (hck : 64 ≤ ck) (hck2 : ck ≤ 9223372036854775807) (w : World)
    (hs : ∀ i, i < 8 → w.cell? ⟨gs, os + i, none⟩ = some (.int .u32 (v.at i))) (hw : ∀ i, i < 64 → w.cell? ⟨gw, ow + i, none⟩ = some (.int .u32 (W[i]?.getD 0))) (hk : ∀ i, i < 64 → w.cell? ⟨gk, ok + i, none⟩ = some (.int .u32 (rootsL[i]?.getD 0))) :
    Calls Tryd.prog 31 #[.slice (some ⟨gs, os, none⟩) 8 cs, .slice (some ⟨gw, ow, none⟩) 64 cw, .slice (some ⟨gk, ok, none⟩) 64 ck] w (MakesR 48 ((mixW v W).list.map (Value.int .u32)) w) := by
  obtain ⟨E⟩ := elem_of (P := Tryd.prog) (t := 44) (e := 48) (z := .int .u32 0) (n := 4) Tryd.underlying44 (by kernel_rfl) rfl (by omega)
  have HW := Lib.hid hw
  have HK := Lib.hid hk
  have HSV := Lib.hid hs
  have HL := Lib.hid hW
  obtain ⟨so, hso⟩ := own_empty32 w
  have HSO := Lib.hid hso
  have HSRC := Lib.hid (show ∀ ad, some (⟨gs, os, none⟩ : Addr) = some ad → ∀ j u, (v.list.map (Value.int .u32))[j]? = some u → so.w.cell? (ad.add j) = some u from fun ad had j u hu => by
    obtain rfl := Option.some.inj had
    have hj := (List.getElem?_eq_some_iff.1 hu).1
    rw [List.length_map] at hj
    have hj8 : j < 8 := hj
    have hcj := hs j hj8
    rw [Addr.add_mid, so.below.cell (p := ⟨gs, os + j, none⟩) (World.block_lt_of_cell? _ _ hcj), hcj]
    rw [List.getElem?_map, List.getElem?_eq_getElem hj] at hu
    rw [← Option.some.inj hu, V8.at, List.getElem?_eq_getElem hj]; rfl)
  clear hs hw hk hso hW
  go_enter Tryd.func31, Tryd.ntmps31
  go_wp2_with (rw [HSO.out]; refine wpList_append_src E so (v.list.map (Value.int .u32)) (.tmp 15) (.tmp 16) rfl rfl rfl (some ⟨gs, os, none⟩) 8 cs rfl rfl (fun h => by cases h) HSRC.out (one_words _) (by simp [V8.list]) ?_; intro v' s2)
  clear HSRC HSO so
  go_loopw [7, 8, 9, 10, 11, 12] (fun vv i _ _ _ _ wr => ∃ k : Nat, k ≤ 64 ∧ i = .int .i64 k ∧ ∃ u : V8, Hid (u = rounds W v k) ∧ ∃ s : OwnW w 48 vv (u.list.map (Value.int .u32)), wr = s.w) (fun _ i _ _ _ _ _ => 64 - (intOf i).toNat)
  case atStart => exact ⟨0, by omega, rfl, v, rfl, s2.as (by simp), rfl⟩
  case round =>
    clear s2
    obtain ⟨k, hk, rfl, u, hu, s, rfl⟩ := hrel
    obtain ⟨g, cap3, rfl, hg, hcp, hcm, hxx⟩ := s.row 8 (by simp [V8.list]) (by omega)
    have hcx : cap3 ≤ 9223372036854775807 := by unfold maxLen at hcm; omega
    clear hcm hxx
    by_cases hlt : k < 64
    · have c0 := fun s : OwnW w 48 (.slice (some ⟨g, 0, none⟩) 8 cap3) (u.list.map (Value.int .u32)) => s.all 0 (.int .u32 u.a) rfl
      have c1 := fun s : OwnW w 48 (.slice (some ⟨g, 0, none⟩) 8 cap3) (u.list.map (Value.int .u32)) => s.all 1 (.int .u32 u.b) rfl
      have c2 := fun s : OwnW w 48 (.slice (some ⟨g, 0, none⟩) 8 cap3) (u.list.map (Value.int .u32)) => s.all 2 (.int .u32 u.c) rfl
      have c3 := fun s : OwnW w 48 (.slice (some ⟨g, 0, none⟩) 8 cap3) (u.list.map (Value.int .u32)) => s.all 3 (.int .u32 u.d) rfl
      have c4 := fun s : OwnW w 48 (.slice (some ⟨g, 0, none⟩) 8 cap3) (u.list.map (Value.int .u32)) => s.all 4 (.int .u32 u.e) rfl
      have c5 := fun s : OwnW w 48 (.slice (some ⟨g, 0, none⟩) 8 cap3) (u.list.map (Value.int .u32)) => s.all 5 (.int .u32 u.f) rfl
      have c6 := fun s : OwnW w 48 (.slice (some ⟨g, 0, none⟩) 8 cap3) (u.list.map (Value.int .u32)) => s.all 6 (.int .u32 u.g) rfl
      have c7 := fun s : OwnW w 48 (.slice (some ⟨g, 0, none⟩) 8 cap3) (u.list.map (Value.int .u32)) => s.all 7 (.int .u32 u.h) rfl
      have cr : ∀ s : OwnW w 48 (.slice (some ⟨g, 0, none⟩) 8 cap3) (u.list.map (Value.int .u32)), s.w.cell? ⟨gk, ok + k, none⟩ = some (.int .u32 (rootsL[k]?.getD 0)) := fun s => by
        have h := HK.out k hlt
        rw [← h]; exact s.below.cell (p := ⟨gk, _, none⟩) (World.block_lt_of_cell? w _ h)
      have cw : ∀ s : OwnW w 48 (.slice (some ⟨g, 0, none⟩) 8 cap3) (u.list.map (Value.int .u32)), s.w.cell? ⟨gw, ow + k, none⟩ = some (.int .u32 (W[k]?.getD 0)) := fun s => by
        have h := HW.out k hlt
        rw [← h]; exact s.below.cell (p := ⟨gw, _, none⟩) (World.block_lt_of_cell? w _ h)
      have d0 := c0 s
      have d4 := c4 s
      go_wp2
      clear d0 d4
      refine wp_region_O s (by kernel_rfl) (by kernel_rfl) (fun hne => ?_)
      clear s
      repeat (go_big_quiet_step ((go_at_call 36; exact OwnW.call (rot_gives _ _ (by unfold Amt; simp) _))))
      refine wpQuiet_nil ?_
      rintro _ ⟨s, rfl⟩
      clear hne
      rw [allOnes]
      go_wp2
      refine wp_region_O s (by kernel_rfl) (by kernel_rfl) (fun hne => ?_)
      clear s
      repeat (go_big_quiet_step ((go_at_call 36; exact OwnW.call (rot_gives _ _ (by unfold Amt; simp) _))))
      refine wpQuiet_nil ?_
      rintro _ ⟨s, rfl⟩
      clear hne cr cw
      go_wp2
      refine wp_region_O_tail 26 s (by kernel_rfl) (by kernel_rfl) (fun hne => ?_)
      simp only [List.take_succ_cons, List.take_zero, List.drop_succ_cons, List.drop_zero]
      clear s
      repeat (go_big_quiet_step (fail))
      refine wpQuiet_nil ?_
      rintro _ ⟨s, rfl⟩
      clear hne c0 c1 c2 c3 c4 c5 c6 c7
      obtain ⟨s3, hs3⟩ := own8 (rnd u (rootsL[k]?.getD 0) (W[k]?.getD 0)) s
      have HS3 := Lib.hid hs3
      clear hs3
      go_wp2
      go_roundw
      case rel => exact ⟨k + 1, by omega, by go_num, rnd u (rootsL[k]?.getD 0) (W[k]?.getD 0), Lib.hid (by rw [hu.out]; rfl), s3, by rw [← HS3.out]; simp [rnd, tOne, tTwo]⟩
      case measure => simp [intOf]; omega
    · obtain rfl : k = 64 := by omega
      go_wp2
      rw [show ((64 : Nat) : Int) = 64 from rfl]
      have HB := Lib.hid s.below
      have HC := Lib.hid (show ∀ i, i < 8 → s.w.cell? ⟨g, i, none⟩ = some (.int .u32 (u.at i)) from fun i hi => by
        refine s.all i _ ?_
        rw [List.getElem?_map, V8.at, List.getElem?_eq_getElem (show i < u.list.length from hi)]; rfl)
      have HD := Lib.hid (show ∀ i, i < 8 → s.w.cell? ⟨gs, os + i, none⟩ = some (.int .u32 (v.at i)) from fun i hi => by
        have h := HSV.out i hi
        rw [← h]; exact s.below.cell (p := ⟨gs, _, none⟩) (World.block_lt_of_cell? w _ h))
      generalize s.w = w1 at HB HC HD ⊢
      clear s
      go_loopw [13, 14] (fun out i wr => ∃ k : Nat, k ≤ 8 ∧ i = .int .i64 k ∧ ∃ s : OwnW w1 48 out ((sumL v u k).map (Value.int .u32)), wr = s.w) (fun _ i _ => 8 - (intOf i).toNat)
      case atStart => exact ⟨0, by omega, rfl, ⟨w1, Below.refl _ _, World.ownsRow_nil w1 w1.heap.size 48 1⟩, rfl⟩
      case round =>
        obtain ⟨k, hk, rfl, s, rfl⟩ := hrel
        by_cases hlt : k < 8
        · have cu : ∀ s : OwnW w1 48 u13 ((sumL v u k).map (Value.int .u32)), s.w.cell? ⟨g, k, none⟩ = some (.int .u32 (u.at k)) := fun s => by
            have h := HC.out k hlt
            rw [← h]; exact s.below.cell (p := ⟨g, _, none⟩) (World.block_lt_of_cell? w1 _ h)
          have cv : ∀ s : OwnW w1 48 u13 ((sumL v u k).map (Value.int .u32)), s.w.cell? ⟨gs, os + k, none⟩ = some (.int .u32 (v.at k)) := fun s => by
            have h := HD.out k hlt
            rw [← h]; exact s.below.cell (p := ⟨gs, _, none⟩) (World.block_lt_of_cell? w1 _ h)
          have HLN := Lib.hid (show ((sumL v u k).map (Value.int .u32)).length + ([Value.int .u32 ((v.at k + u.at k) % 4294967296)] : List Value).length ≤ 1099511627776 by unfold sumL; simp; omega)
          have HSU := Lib.hid (show sumL v u (k + 1) = sumL v u k ++ [(v.at k + u.at k) % 4294967296] by unfold sumL; rw [List.range_succ, List.map_append]; rfl)
          go_wp2
          refine wp_region_O_tail1 10 s (.tmp 13) rfl rfl (by kernel_rfl) (by kernel_rfl) (fun _ _ _ h => h) (fun hne => ?_)
          simp only [List.take_succ_cons, List.take_zero, List.drop_succ_cons, List.drop_zero]
          clear s
          repeat (go_big_quiet_step (fail))
          refine wpQuiet_nil ?_
          rintro _ ⟨s, rfl⟩
          clear hne cu cv
          go_wp2_with (refine wpList_append_O E s [.int .u32 ((v.at k + u.at k) % 4294967296)] _ rfl (.tmp 122) (.tmp 132) rfl rfl rfl 1 1 rfl rfl (by simp [Value.oneCell']) HLN.out ?_; intro v' s3)
          go_roundw
          case rel => exact ⟨k + 1, by omega, by go_num, s3.as (by rw [HSU.out, List.map_append]; rfl), rfl⟩
          case measure => simp [intOf]; omega
        · obtain rfl : k = 8 := by omega
          go_wp2
          go_ret
          exact ⟨_, rfl, (s.as (by rw [sum8, hu.out]; rfl)).rebase HB.out, rfl⟩
end Go.Proofs.YtnpcocjjmajifaaDoor
