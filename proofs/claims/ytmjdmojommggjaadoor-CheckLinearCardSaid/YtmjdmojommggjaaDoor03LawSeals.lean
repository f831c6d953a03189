/- CheckSeals returns true for all bytes, and changes nothing that was there. -/
import Derived.Test.YtmjdmojommggjaaDoor03LawOpens
namespace Go.Proofs.YtmjdmojommggjaaDoor
open Go.RowKit
set_option linter.unusedVariables false

theorem eq8_same {w : World} {bs : List (Nat × Obj)} (s : HeldW w bs) {l : List Int} {a b : Option Addr} {cap cap' n : Nat} (hn : l.length = n) (ha : BytesIn w a l cap) (hb : BytesIn w b l cap') :
    Calls Tryd.prog 15 #[.slice a n cap, .slice b n cap'] s.w fun e w'' => e = .returned (.bool true) ∧ ∃ s' : HeldW w bs, w'' = s'.w := by
  have h := eq8_any l l a b cap cap' s.w (ha.W s) (hb.W s)
  rw [decide_eq_true rfl, hn] at h
  exact HeldW.call h
/-- One world more. -/
theorem OwnW.on {w : World} {bs : List (Nat × Obj)} (s : HeldW w bs) {e : TypeId} {v : Value} {xs : List Value} (o : OwnW s.w e v xs) : ∃ s' : HeldW w bs, o.w = s'.w :=
  ⟨⟨o.w, s.below.trans (o.below.mono s.below.size), fun p hp => (o.below.block _ (Array.getElem?_eq_some_iff.1 (s.blocks p hp)).1).trans (s.blocks p hp)⟩, rfl⟩

theorem seals_big (l : List Int) (a : Option Addr) (cap : Nat) (w : World) (hT : Tab w) (hbig : 1000 < l.length) (hmax : l.length ≤ 9223372036854775807) : Calls Tryd.prog 4 #[.slice a l.length cap] w (Gives (.bool true) w) := by
  have ha := alive03_any w hT
  clear hT
  go_enter Tryd.func4, Tryd.ntmps4
  go_wp2_with fail
  refine (HeldW.call (s := HeldW.start w) ha).mono ?_
  rintro e _ ⟨rfl, s1, rfl⟩
  clear ha
  go_wp2
  go_ret
  exact ⟨rfl, s1.below⟩

set_option maxRecDepth 100000 in
set_option maxHeartbeats 8000000 in
theorem seals_small (l : List Int) (a : Option Addr) (cap : Nat) (w : World) (hT : Tab w) (hb : BytesIn w a l cap) (hsmall : l.length ≤ 1000) : Calls Tryd.prog 4 #[.slice a l.length cap] w (Gives (.bool true) w) := by
  obtain ⟨E⟩ := elem_of (P := Tryd.prog) (t := 24) (e := 5) (z := .int .u8 0) (n := 1) Tryd.underlying24 (by kernel_rfl) rfl (by omega)
  have HT := Lib.hid hT
  have HB := Lib.hid hb
  obtain ⟨so, hso⟩ := own_empty w
  have HSO := Lib.hid hso
  have HSRC := Lib.hid (hb.below so.below).news
  have HML := Lib.hid (show l.length = (l.map (Value.int .u8)).length from (List.length_map _).symm)
  have HNIL := Lib.hid (hb.nil2 rfl)
  obtain ⟨n, hn⟩ : ∃ n, n = l.length := ⟨_, rfl⟩
  rw [← hn] at HML HNIL hsmall ⊢
  have HN := Lib.hid hn
  obtain ⟨m, hm⟩ : ∃ m, m = (sealL l).length := ⟨_, rfl⟩
  have HM := Lib.hid hm
  clear hT hb hso hn hm
  go_enter Tryd.func4, Tryd.ntmps4
  go_wp2_with (rw [HSO.out]; refine wpList_append_src E so (l.map (Value.int .u8)) (.tmp 13) (.tmp 14) rfl rfl rfl a n cap HML.out rfl HNIL.out HSRC.out (one_bytes _) (by rw [List.length_nil, ← HML.out]; omega) ?_; intro v' o1)
  obtain ⟨a1, cap1, rfl, hb1⟩ := (o1.as (show [] ++ l.map (Value.int .u8) = l.map (Value.int .u8) from rfl)).bytesN HN.out.symm
  obtain ⟨s1, hs1⟩ : ∃ s1 : HeldW w [], o1.w = s1.w := ⟨⟨o1.w, o1.below, by simp⟩, rfl⟩
  replace hb1 : BytesIn s1.w a1 l cap1 := by rw [← hs1]; exact hb1
  rw [hs1]
  have hc := cseal_any l a1 cap1 s1.w (HT.out.W s1) hb1 (by have := HN.out; omega)
  rw [← HN.out] at hc
  clear hs1 o1 HSO HSRC HML HNIL so
  go_wp2_with fail
  refine hc.mono ?_
  rintro e _ ⟨v, rfl, o2, rfl⟩
  obtain ⟨a2, cap2, rfl, hb2⟩ := o2.bytesN HM.out.symm
  obtain ⟨s2, hs2⟩ := o2.on s1
  rw [hs2] at hb2 ⊢
  replace hb1 : BytesIn s2.w a1 l cap1 := by rw [← hs2]; exact hb1.below o2.below
  have hr := rcseal_any l a cap s2.w (HB.out.W s2) (by have := HN.out; omega)
  rw [← HN.out] at hr
  clear hc hs2 o2 s1
  go_wp2_with fail
  refine hr.mono ?_
  rintro e _ ⟨v, rfl, o3, rfl⟩
  obtain ⟨a3, cap3, rfl, hb3⟩ := o3.bytesN HM.out.symm
  obtain ⟨s3, hs3⟩ := o3.on s2
  rw [hs3] at hb3 ⊢
  replace hb1 : BytesIn s3.w a1 l cap1 := by rw [← hs3]; exact hb1.below o3.below
  replace hb2 : BytesIn s3.w a2 (sealL l) cap2 := by rw [← hs3]; exact hb2.below o3.below
  have hb0 := HB.out.W s3
  have HSL := Lib.hid (sealL_length l)
  clear hr hs3 o3 s2
  go_wp2_with fail
  refine (eq8_same (HeldW.start s3.w) HM.out.symm hb2 hb3).mono ?_
  rintro e _ ⟨rfl, t1, rfl⟩
  go_wp2_with fail
  refine (eq8_same t1 HN.out.symm hb1 hb0).mono ?_
  rintro e _ ⟨rfl, t2, rfl⟩
  clear t1 hb1
  obtain ⟨s4, hs4⟩ : ∃ s4 : HeldW w [], t2.w = s4.w := ⟨⟨t2.w, s3.below.trans (t2.below.mono s3.below.size), by simp⟩, rfl⟩
  replace hb2 : BytesIn s4.w a2 (sealL l) cap2 := by rw [← hs4]; exact hb2.W t2
  replace hb3 : BytesIn s4.w a3 (sealL l) cap3 := by rw [← hs4]; exact hb3.W t2
  replace hb0 := HB.out.W s4
  rw [hs4]
  have ho := copen_seal l a2 cap2 s4.w (HT.out.W s4) hb2 (by have := HN.out; omega) (n := m) (by rw [HM.out, HSL.out])
  clear hs4 t2 s3
  go_wp2_with fail
  refine ho.mono ?_
  rintro e _ ⟨v, rfl, o5, rfl⟩
  have hcell5 := o5.bytes
  obtain ⟨a5, cap5, bsx, rfl, hc5, hcb5, hrow, t5, ht5⟩ := o5.held n (by rw [List.length_map, HN.out])
  have hb5 : BytesIn t5.w a5 l cap5 := by
    obtain ⟨a', c', he, hb'⟩ := hcell5
    simp only [Value.slice.injEq] at he
    obtain ⟨rfl, _, rfl⟩ := he
    rw [← ht5]; exact hb'
  rw [ht5]
  clear ho hcell5 ht5 o5
  have h0t := hb0.W t5
  go_wp2_with fail
  refine (HeldW.call (s := t5) (by
    have h := eq8_any l l a5 a cap5 cap t5.w hb5 h0t
    rw [decide_eq_true rfl, ← HN.out] at h
    exact h)).mono ?_
  rintro e _ ⟨rfl, t6, rfl⟩
  have HR0 := Lib.hid (show 0 < n → ∀ g cur, bsx = [(g, .cells cur 5 (0, 0))] → a5 = some ⟨g, 0, none⟩ → ∀ j, j < n → ∃ x, cur[j]? = some (.int .u8 x) from fun hp g cur hbs hag j hj => by
    obtain ⟨g', cur', h1, h2, h3, h4⟩ := hrow.out hp
    rw [hbs] at h3
    simp only [List.cons.injEq, Prod.mk.injEq, Obj.cells.injEq, and_true] at h3
    obtain ⟨rfl, rfl⟩ := h3
    exact ⟨l[j]?.getD 0, h4 j _ (by rw [List.getElem?_map, List.getElem?_eq_getElem (by have := HN.out; omega)]; rfl)⟩)
  clear hb5 h0t t5 hb0
  go_wp2
  go_loopw [8, 45] (fun _ i wr => ∃ k : Nat, k ≤ n ∧ i = .int .i64 k ∧ ∃ bs' : List (Nat × Obj), Hid (0 < n → ∃ g cur, a5 = some ⟨g, 0, none⟩ ∧ s4.w.heap.size ≤ g ∧ bs' = [(g, .cells cur 5 (0, 0))] ∧ ∀ j, j < n → ∃ x, cur[j]? = some (.int .u8 x)) ∧ ∃ s : HeldW s4.w bs', wr = s.w) (fun _ i _ => n - (intOf i).toNat)
  case atStart =>
    refine ⟨0, by omega, rfl, bsx, fun hp => ?_, t6, rfl⟩
    obtain ⟨g', cur', h1, h2, h3, h4⟩ := hrow.out hp
    exact ⟨g', cur', h1, h2, h3, HR0.out hp g' cur' h3 h1⟩
  case round =>
    clear t6 hrow HR0
    obtain ⟨k, hk, rfl, bs', hbs, s, rfl⟩ := hrel
    by_cases hlt : k < n
    · obtain ⟨g, cur, rfl, hg, rfl, hcur⟩ := hbs.out (by omega)
      have hblk := s.blocks (g, .cells cur 5 (0, 0)) List.mem_cons_self
      obtain ⟨x, hx⟩ := hcur k hlt
      have hcell : s.w.cell? ⟨g, k, none⟩ = some (.int .u8 x) := by rw [cell_of hblk, hx]
      have hfree := free_of hblk k
      have HC := Lib.hid hcur
      obtain ⟨y, hy⟩ : ∃ y, y = IntKind.u8.wrap (x + 1) := ⟨_, rfl⟩
      have hyy : (x + 1) % 256 = y := by rw [hy, IntKind.wrap_u8]
      clear hblk hx hcur hbs hy
      go_wp2
      go_roundw
      case rel =>
        refine ⟨k + 1, by omega, by go_num, [(g, .cells (cur.setIfInBounds k (.int .u8 y)) 5 (0, 0))], fun hp => ⟨g, _, rfl, hg, rfl, fun j hj => ?_⟩, s.store hg (by simp) rfl, rfl⟩
        obtain ⟨x', hx'⟩ := HC.out j hj
        by_cases hjk : k = j
        · subst hjk
          have hsz := (Array.getElem?_eq_some_iff.1 hx').1
          exact ⟨y, by simp [hsz]⟩
        · exact ⟨x', by rw [Array.getElem?_setIfInBounds_ne hjk, hx']⟩
      case measure => simp [intOf]; omega
    · obtain rfl : k = n := by omega
      have hal : Calls Tryd.prog 9 #[] s.w (Gives (.bool true) s.w) := alive03_any s.w ((HT.out.W s4).W s)
      clear hbs
      go_wp2_with fail
      refine (HeldW.call (s := s) hal).mono ?_
      rintro e _ ⟨rfl, t7, rfl⟩
      clear hal s
      go_wp2_with fail
      refine (eq8_same t7 HM.out.symm hb2 hb3).mono ?_
      rintro e _ ⟨rfl, t8, rfl⟩
      go_wp2
      go_ret
      exact ⟨rfl, s4.below.trans (t8.below.mono s4.below.size)⟩

theorem checkSeals_walk (a : Option Addr) (l : List Int) (cap : Nat) (w : World) (hT : Tab w) (hb : BytesIn w a l cap) : Calls Tryd.prog 4 #[.slice a l.length cap] w (Gives (.bool true) w) := by
  by_cases h : l.length ≤ 1000
  · exact seals_small l a cap w hT hb h
  · exact seals_big l a cap w hT (by omega) (Nat.le_trans hb.len hb.capb)
end Go.Proofs.YtmjdmojommggjaaDoor
