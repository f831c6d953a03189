/- Write of package sha. -/
import Derived.Test.YtnpcocjjmajifaaDoor02New
namespace Go.Proofs.YtnpcocjjmajifaaDoor
open Go.RowKit
set_option linter.unusedVariables false

theorem Src.at {w : World} {h : Nat} {a : Option Addr} {l : List Int} (hs : Src w h a l) {bs : List (Nat × Obj)} (s : HeldX w h bs) : Src s.w h a l := fun hp => by
  obtain ⟨b, o, rfl, hb, hc⟩ := hs hp
  exact ⟨b, o, rfl, hb, Src.X hb hc s⟩
theorem ret_i {k : IntKind} {a b : Int} (h : a = b) : Ending.returned (.int k a) = .returned (.int k b) := by rw [h]
theorem inv_len {M : List Int} {o : Obj} (hi : Inv M o) {w : World} {h : Nat} (ho : w.heap[h]? = some o) : w.cell? ⟨h, 72, none⟩ = some (.int .i64 M.length) := by
  obtain ⟨r, hr, _, rfl⟩ := hi
  rw [cell_of ho, hash_len _ r _ hr]

/-- The i-th part. -/
def partOf (ls : List (List Int)) (i : Nat) : List Int := ls[i]?.getD []
/-- A slice of slices of bytes outside of block h. -/
def PartsAt (w : World) (h : Nat) (pa : Option Addr) (ls : List (List Int)) : Prop := 0 < ls.length → ∃ b o, pa = some ⟨b, o, none⟩ ∧ b ≠ h ∧ ∀ i, i < ls.length →
  ∃ a cap, w.cell? ⟨b, o + i, none⟩ = some (.slice a (partOf ls i).length cap) ∧ (partOf ls i).length ≤ cap ∧ cap ≤ 9223372036854775807 ∧ Src w h a (partOf ls i)
theorem take_flat (ls : List (List Int)) {k : Nat} (hk : k < ls.length) : (ls.take (k + 1)).flatten = (ls.take k).flatten ++ partOf ls k := by
  rw [List.take_succ_eq_append_getElem hk, List.flatten_append]
  unfold partOf
  rw [List.getElem?_eq_getElem hk]
  simp
theorem take_flat_le (ls : List (List Int)) (k : Nat) : (ls.take k).flatten.length ≤ ls.flatten.length := by
  conv => rhs; rw [← List.take_append_drop k ls, List.flatten_append, List.length_append]
  omega

set_option maxRecDepth 100000 in
set_option maxHeartbeats 4000000 in
theorem write_any (h : Nat) (m : List Int) (ls : List (List Int)) (o : Obj) (pa : Option Addr) (pcap : Nat) (w : World) (hinv : Inv m o) (ho : w.heap[h]? = some o) (hh : h ≠ 0) (hR : Roots w) (hparts : PartsAt w h pa ls)
    (hn : ls.length < 2305843009213693952) (hm : m.length + ls.flatten.length < 2305843009213693952) :
    Calls Tryd.prog 13 #[.pointer (some ⟨h, 0, none⟩), .slice pa ls.length pcap] w (Takes h (m ++ ls.flatten) (.int .i64 ls.flatten.length) w) := by
  obtain ⟨T, hT⟩ : ∃ T, ls.flatten.length = T := ⟨_, rfl⟩
  rw [hT] at hm ⊢
  have HT := Lib.hid hT
  clear hT
  have c72 := inv_len hinv ho
  have HI := Lib.hid hinv
  have HR := Lib.hid hR
  have HP := Lib.hid hparts
  have HO := Lib.hid ho
  clear hinv hR hparts ho
  go_enter Tryd.func13, Tryd.ntmps13
  go_wp2
  go_loopw [7, 16] (fun _ i wr => ∃ k : Nat, k ≤ ls.length ∧ i = .int .i64 k ∧ ∃ o' : Obj, Hid (Inv (m ++ (ls.take k).flatten) o') ∧ ∃ s : HeldX w h [(h, o')], wr = s.w) (fun _ i _ => ls.length - (intOf i).toNat)
  case atStart => exact ⟨0, by omega, rfl, o, Lib.hid (by simpa using HI.out), HeldX.start HO.out, rfl⟩
  case round =>
    clear c72
    obtain ⟨k, hk, rfl, o', hi, s, rfl⟩ := hrel
    by_cases hlt : k < ls.length
    · obtain ⟨b, o2, rfl, hb, hc⟩ := HP.out (by omega)
      obtain ⟨a, cap, hcell, hcap, hcap2, hsrc⟩ := hc k hlt
      have hle := take_flat_le ls (k + 1)
      rw [take_flat ls hlt, List.length_append, HT.out] at hle
      have hcs : s.w.cell? ⟨b, o2 + k, none⟩ = some (.slice a (partOf ls k).length cap) := by
        rw [← hcell]; unfold World.cell?; rw [s.but.block b (World.block_lt_of_cell? w _ hcell) hb]
      have ht := take_any h (m ++ (ls.take k).flatten) (partOf ls k) o' a cap s.w hi.out (s.blocks (_, _) List.mem_cons_self) hh (HR.out.X hh s) (hsrc.at s) hcap hcap2 (by rw [List.length_append]; omega)
      rw [List.append_assoc, ← take_flat ls hlt] at ht
      have ht2 := HeldX.takes (s := s) ht (.inl rfl) (by simp)
      clear ht hc hcell hsrc hle hi
      generalize partOf ls k = l at hcs ht2 hcap
      go_wp2_with fail
      refine ht2.mono ?_
      rintro e _ ⟨rfl, o3, hi, s2, rfl⟩
      clear ht2 hcs s
      go_wp2
      go_roundw
      case rel => exact ⟨k + 1, by omega, by go_num, o3, hi, s2, rfl⟩
      case measure => simp [intOf]; omega
    · obtain rfl : k = ls.length := by omega
      rw [List.take_length] at hi
      have c72 := inv_len hi.out (s.blocks (_, _) List.mem_cons_self)
      have hlen : (m ++ ls.flatten).length = m.length + T := by rw [List.length_append, HT.out]
      rw [hlen] at c72
      clear hlen
      go_wp2
      go_ret
      exact ⟨ret_i (by omega), s.but, o', s.blocks (_, _) List.mem_cons_self, hi.out⟩
end Go.Proofs.YtnpcocjjmajifaaDoor
