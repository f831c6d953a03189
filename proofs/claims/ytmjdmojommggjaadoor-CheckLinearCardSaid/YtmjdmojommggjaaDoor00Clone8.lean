/- slices.Clone and slices.Equal of bytes. -/
import Derived.Laws.Cover3
import Derived.BigQuiet
import Derived.Deep.QuietTactic
import Derived.LoopTactic
import Derived.Test.YtmjdmojommggjaaDoor00Bytes
namespace Go.Proofs.YtmjdmojommggjaaDoor
open Go.RowKit
set_option linter.unusedVariables false

/-- What wpList_append_src wants of a slice that came in. -/
theorem BytesIn.nil2 {w : World} {a : Option Addr} {l : List Int} {cap : Nat} (h : BytesIn w a l cap) {n : Nat} (hn : n = l.length) : a = none → n = 0 ∧ cap = 0 := fun h0 => by
  have := h.nil h0; have := h.len; omega
theorem BytesIn.news {w : World} {a : Option Addr} {l : List Int} {cap : Nat} (h : BytesIn w a l cap) : ∀ ad, a = some ad → ∀ j u, (l.map (Value.int .u8))[j]? = some u → w.cell? (ad.add j) = some u := fun ad had j u hu => by
  have hj := (List.getElem?_eq_some_iff.1 hu).1
  rw [List.length_map] at hj
  obtain ⟨b, o, h1, hc⟩ := h.cells (by omega)
  obtain rfl := Option.some.inj (had.symm.trans h1)
  rw [Addr.add_mid, hc j hj]
  rw [List.getElem?_map] at hu
  obtain ⟨x, hx, rfl⟩ := Option.map_eq_some_iff.1 hu
  rw [hx]; rfl
theorem BytesIn.below {w w' : World} {a : Option Addr} {l : List Int} {cap : Nat} (h : BytesIn w a l cap) (hb : Below w.heap.size w w') : BytesIn w' a l cap := h.W (bs := []) ⟨w', hb, by simp⟩

/-- An owned slice of bytes can be read. -/
theorem OwnW.bytes {w0 : World} {e : TypeId} {v : Value} {l : List Int} (s : OwnW w0 e v (l.map (Value.int .u8))) : ∃ (a : Option Addr) (cap : Nat), v = .slice a l.length cap ∧ BytesIn s.w a l cap := by
  have hl : (l.map (Value.int .u8)).length = l.length := List.length_map _
  rcases s.own.2 with ⟨h1, h0⟩ | ⟨g, cap, cur, hv, hg, hb, hc, hm, _, ht⟩
  · rw [hl] at h0
    obtain rfl := List.eq_nil_of_length_eq_zero h0
    exact ⟨none, 0, h1, by simp, by omega, fun h => absurd h (by simp), fun _ => rfl⟩
  · rw [hl] at hv hc
    subst hv
    refine ⟨_, cap, rfl, hc, by unfold maxLen at hm; omega, fun hp => ⟨g, 0, rfl, fun i hi => ?_⟩, fun h => by cases h⟩
    have hown := s.own.cells (g := g) rfl i (.int .u8 (l[i]?.getD 0)) (by rw [List.getElem?_map, List.getElem?_eq_getElem hi]; rfl)
    rwa [Addr.add_mid] at hown
theorem OwnW.bytesN {w0 : World} {e : TypeId} {v : Value} {l : List Int} (s : OwnW w0 e v (l.map (Value.int .u8))) {n : Nat} (hn : l.length = n) : ∃ (a : Option Addr) (cap : Nat), v = .slice a n cap ∧ BytesIn s.w a l cap := by subst hn; exact s.bytes
/-- A literal of bytes that a string shares. -/
theorem lit_bytes {w : World} {l : List Int} {n : Nat} (hn : l.length = n) (hl : l.length ≤ 9223372036854775807) : BytesIn (w.alloc (.cells (byteA l) 5 (n, n + 1))) (some ⟨w.heap.size, 0, none⟩) l n := by
  subst hn
  exact ⟨Nat.le_refl _, hl, fun _ => ⟨w.heap.size, 0, rfl, fun i hi => by rw [Nat.zero_add, cell_of_row _ w.heap.size _ _ _ _ (World.alloc_heap_new w _), byteA_get l hi]⟩, fun h => by cases h⟩

theorem eq_nil8 (a : Option Addr) (n c : Nat) (w : World) : (binOp .eql 24 (.slice a n c) (.slice none 0 0)).run Tryd.prog w = .ok (.bool a.isNone) w := by
  simp [binOp, run_equal_slice_nil w 24 5 a n c Tryd.underlying24]

set_option maxRecDepth 100000 in
theorem clone8_any (l : List Int) (a : Option Addr) (cap : Nat) (w : World) (hb : BytesIn w a l cap) (hm : l.length ≤ 1000000) : Calls Tryd.prog 23 #[.slice a l.length cap] w (MakesR 5 (l.map (Value.int .u8)) w) := by
  cases a with
  | none =>
    obtain rfl : l = [] := List.eq_nil_of_length_eq_zero (hb.nil2 rfl rfl).1
    obtain rfl : cap = 0 := hb.nil rfl
    have hq := eq_nil8 none 0 0
    clear hb hm
    go_enter Tryd.func23, Tryd.ntmps23
    go_wp2
    go_ret
    exact ⟨_, rfl, ⟨w, Below.refl _ _, World.ownsRow_nil w w.heap.size 5 1⟩, rfl⟩
  | some ad =>
    obtain ⟨E⟩ := elem_of (P := Tryd.prog) (t := 24) (e := 5) (z := .int .u8 0) (n := 1) Tryd.underlying24 (by kernel_rfl) rfl (by omega)
    obtain ⟨so, hso⟩ := own_empty w
    have HSO := Lib.hid hso
    have HSRC := Lib.hid (hb.below so.below).news
    have HML := Lib.hid (show l.length = (l.map (Value.int .u8)).length from (List.length_map _).symm)
    have HLN := Lib.hid (show l.length ≤ 1000000 from hm)
    have hq := eq_nil8 (some ad) l.length cap
    clear hso hb hm
    go_enter Tryd.func23, Tryd.ntmps23
    go_wp2_with (rw [HSO.out]; refine wpList_append_src E so (l.map (Value.int .u8)) (.tmp 5) (.tmp 6) rfl rfl rfl (some ad) l.length cap HML.out rfl (fun h => by cases h) HSRC.out (one_bytes _) (by rw [List.length_nil, List.length_map]; have := HLN.out; omega) ?_; intro v' s')
    go_ret
    exact ⟨_, rfl, s', rfl⟩

/-- Whether two lists of bytes are one, as far as the first k go. -/
theorem getD_take_eq {l m : List Int} {k : Nat} (h : l.take k = m.take k) (hk : k < l.length) (hk2 : k < m.length) (he : l[k]?.getD 0 = m[k]?.getD 0) : l.take (k + 1) = m.take (k + 1) := by
  rw [List.take_succ_eq_append_getElem hk, List.take_succ_eq_append_getElem hk2, h]
  rw [List.getElem?_eq_getElem hk, List.getElem?_eq_getElem hk2] at he
  simp only [Option.getD_some] at he
  rw [he]
set_option maxRecDepth 100000 in
set_option maxHeartbeats 1000000 in
theorem eq8_any (l m : List Int) (a b : Option Addr) (cap cap' : Nat) (w : World) (hl : BytesIn w a l cap) (hm : BytesIn w b m cap') :
    Calls Tryd.prog 15 #[.slice a l.length cap, .slice b m.length cap'] w (Gives (.bool (decide (l = m))) w) := by
  have h1 : l.length ≤ 9223372036854775807 := Nat.le_trans hl.len hl.capb
  have h2 : m.length ≤ 9223372036854775807 := Nat.le_trans hm.len hm.capb
  have HL := Lib.hid hl
  have HM := Lib.hid hm
  clear hl hm
  by_cases hlen : l.length = m.length
  · have HD := Lib.hid hlen
    have HEQ := Lib.hid (show l.length = m.length from hlen)
    obtain ⟨d, hd⟩ : ∃ d, d = decide (l = m) := ⟨_, rfl⟩
    have HDD := Lib.hid hd
    rw [← hd]
    clear hd
    rw [← hlen]
    clear hlen
    go_enter Tryd.func15, Tryd.ntmps15
    go_wp2
    go_loopw [5, 13] (fun _ i wr => ∃ k : Nat, k ≤ l.length ∧ i = .int .i64 k ∧ Hid (l.take k = m.take k) ∧ ∃ s : HeldW w [], wr = s.w) (fun _ i _ => l.length - (intOf i).toNat)
    case atStart => exact ⟨0, by omega, rfl, Lib.hid rfl, HeldW.start w, rfl⟩
    case round =>
      obtain ⟨k, hk, rfl, htk, s, rfl⟩ := hrel
      by_cases hlt : k < l.length
      · obtain ⟨b1, o1, rfl, hc1⟩ := HL.out.cells (by omega)
        obtain ⟨b2, o2, rfl, hc2⟩ := HM.out.cells (by have := HEQ.out; omega)
        have e1 := hc1 k hlt
        have e2 := hc2 k (by have := HEQ.out; omega)
        have c1 : ∀ s : HeldW w [], s.w.cell? ⟨b1, o1 + k, none⟩ = some (.int .u8 (l[k]?.getD 0)) := fun s => (s.below.cell (p := ⟨b1, o1 + k, none⟩) (World.block_lt_of_cell? _ _ e1)).trans e1
        have c2 : ∀ s : HeldW w [], s.w.cell? ⟨b2, o2 + k, none⟩ = some (.int .u8 (m[k]?.getD 0)) := fun s => (s.below.cell (p := ⟨b2, o2 + k, none⟩) (World.block_lt_of_cell? _ _ e2)).trans e2
        clear hc1 hc2 e1 e2
        have HX := Lib.hid (show l[k]?.getD 0 = m[k]?.getD 0 → l.take (k + 1) = m.take (k + 1) from getD_take_eq htk.out hlt (by have := HEQ.out; omega))
        have HY := Lib.hid (show l[k]?.getD 0 ≠ m[k]?.getD 0 → d = false from fun h => by rw [HDD.out]; exact decide_eq_false (fun he => h (by rw [he])))
        generalize l[k]?.getD 0 = x at c1 HX HY
        generalize m[k]?.getD 0 = y at c2 HX HY
        go_wp2
        refine wp_region_class _ _ (by kernel_rfl) (by kernel_rfl) s.below s.blocks (fun hne => ?_)
        clear s
        repeat (go_big_quiet_step (fail))
        refine wpQuiet_nil ?_
        rintro _ ⟨s, rfl⟩
        clear hne c1 c2
        by_cases hxy : x = y
        · have hb : (x != y) = false := by simp [hxy]
          go_wp2
          go_roundw
          case rel => exact ⟨k + 1, by omega, by go_num, Lib.hid (HX.out hxy), s, rfl⟩
          case measure => simp [intOf]; omega
        · have hb : (x != y) = true := by simpa using hxy
          have hdf := HY.out hxy
          subst hdf
          go_wp2
          go_ret
          exact ⟨rfl, s.below⟩
      · obtain rfl : k = l.length := by omega
        have hdt : d = true := by
          rw [HDD.out]
          have h := htk.out
          rw [List.take_length, HEQ.out, List.take_length] at h
          simpa using h
        subst hdt
        go_wp2
        go_ret
        exact ⟨rfl, s.below⟩
  · have hd : decide (l = m) = false := decide_eq_false (fun h => hlen (by rw [h]))
    rw [hd]
    have hne : ((l.length : Int) != (m.length : Int)) = true := by rw [bne_iff_ne]; omega
    clear hd
    generalize l.length = n1 at *
    generalize m.length = n2 at *
    clear HL HM
    go_enter Tryd.func15, Tryd.ntmps15
    go_wp2
    go_ret
    exact ⟨rfl, Below.refl _ _⟩
end Go.Proofs.YtmjdmojommggjaaDoor
