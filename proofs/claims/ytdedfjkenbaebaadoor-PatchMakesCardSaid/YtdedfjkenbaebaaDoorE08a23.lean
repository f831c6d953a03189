import Derived.Test.YtdedfjkenbaebaaDoorE08a22
import Derived.Test.YtdedfjkenbaebaaDoorE08a17
import Derived.BigQuiet
import Derived.LoopTactic
import Derived.Deep.QuietTactic
import Derived.Great.BuildSlice
import Derived.Shelf.Abstract
import Derived.Test.YtdedfjkenbaebaaDoorE08a5
import Derived.Test.YtdedfjkenbaebaaDoorE08a1
/- common, blockOffsets of package patch. -/
namespace Go.Proofs.YtdedfjkenbaebaaDoor
open Go.RowKit
set_option linter.unusedVariables false
set_option linter.unusedSimpArgs false

set_option maxRecDepth 100000 in
set_option maxHeartbeats 4000000 in
theorem common_any (a b : Option Addr) (l x : List Int) (cap capx : Nat) (w : World) (hl : BytesIn w a l cap) (hx : BytesIn w b x capx) (ol : OkB l) (ox : OkB x) :
    Calls Tryd.prog 53 #[.slice a l.length cap, .slice b x.length capx] w (Gives (.int .i64 (comm l x : Int)) w) := by
  have HL := Lib.hid hl
  have HX := Lib.hid hx
  have hlb : l.length ≤ 9223372036854775807 := Nat.le_trans hl.len hl.capb
  have hxb : x.length ≤ 9223372036854775807 := Nat.le_trans hx.len hx.capb
  have hcs : Hid (∀ k, k < l.length → k < x.length → l.take k = x.take k → (l[k]?.getD 0 = x[k]?.getD 0 → l.take (k + 1) = x.take (k + 1)) ∧ (l[k]?.getD 0 ≠ x[k]?.getD 0 → comm l x = k)) := Lib.hid fun k h1 h2 h3 => comm_step h1 h2 h3
  have hce : Hid (∀ k, k = min l.length x.length → l.take k = x.take k → comm l x = k) := Lib.hid fun k h1 h2 => comm_end h2 h1
  obtain ⟨POST, hP⟩ : ∃ P, P = Gives (.int .i64 (comm l x : Int)) w := ⟨_, rfl⟩
  rw [← hP]
  have HP := Lib.hid hP
  obtain ⟨LA, hLA⟩ : ∃ n, n = l.length := ⟨_, rfl⟩
  obtain ⟨LB, hLB⟩ : ∃ n, n = x.length := ⟨_, rfl⟩
  have HLA := Lib.hid hLA
  have HLB := Lib.hid hLB
  rw [← hLA] at hlb ⊢
  rw [← hLB] at hxb ⊢
  obtain ⟨m, hm⟩ : ∃ m, m = min LA LB := ⟨_, rfl⟩
  have HM := Lib.hid hm
  have hmin : min (LA : Int) (LB : Int) = (m : Int) := by omega
  clear hl hx hP hLA hLB hm
  go_enter Tryd.func53, Tryd.ntmps53
  go_wp2
  clear hmin
  go_loopw [13] (fun i wr => ∃ k : Nat, k ≤ m ∧ i = .int .i64 k ∧ l.take k = x.take k ∧ ∃ s : HeldW w [], wr = s.w) (fun i _ => m - (intOf i).toNat)
  case atStart => exact ⟨0, by omega, rfl, rfl, HeldW.start w, rfl⟩
  case round =>
    obtain ⟨k, hk, rfl, htk, s, rfl⟩ := hrel
    by_cases hlt : k < m
    · have hkA : k < LA := by have := HM.out; omega
      have hkB : k < LB := by have := HM.out; omega
      obtain ⟨b1, o1, rfl, hc1⟩ := HL.out.cells (by have := HLA.out; omega)
      obtain ⟨b2, o2, rfl, hc2⟩ := HX.out.cells (by have := HLB.out; omega)
      have d1 : ∀ s : HeldW w [], s.w.cell? ⟨b1, o1 + k, none⟩ = some (.int .u8 (l[k]?.getD 0)) := fun s => by
        have := hc1 k (by have := HLA.out; omega)
        exact (s.below.cell (p := ⟨b1, o1 + k, none⟩) (World.block_lt_of_cell? _ _ this)).trans this
      have d2 : ∀ s : HeldW w [], s.w.cell? ⟨b2, o2 + k, none⟩ = some (.int .u8 (x[k]?.getD 0)) := fun s => by
        have := hc2 k (by have := HLB.out; omega)
        exact (s.below.cell (p := ⟨b2, o2 + k, none⟩) (World.block_lt_of_cell? _ _ this)).trans this
      obtain ⟨q1, q2⟩ := hcs.out k (by have := HLA.out; omega) (by have := HLB.out; omega) htk
      have HQ1 := Lib.hid q1
      have HQ2 := Lib.hid q2
      clear q1 q2 hc1 hc2 htk
      generalize l[k]?.getD 0 = u1 at d1 HQ1 HQ2
      generalize x[k]?.getD 0 = u2 at d2 HQ1 HQ2
      by_cases he : u1 = u2
      · have hb : (u1 != u2) = false := by simpa using he
        have hnx := Lib.hid (HQ1.out he)
        clear HQ1 HQ2 he
        go_wp2
        refine wp_region_class w [] (by kernel_rfl) (by kernel_rfl) s.below (by simp) (fun hne => ?_)
        repeat (go_big_quiet_step (fail))
        refine wpQuiet_nil ?_
        rintro _ ⟨s2, rfl⟩
        clear hne d1 d2 s
        go_wp2
        go_roundw
        case rel => exact ⟨k + 1, by omega, by go_num, hnx.out, s2, rfl⟩
        case measure => simp [intOf]; omega
      · have hb : (u1 != u2) = true := by simpa using he
        have hfin := Lib.hid (HQ2.out he)
        clear HQ1 HQ2 he
        go_wp2
        refine wp_region_class w [] (by kernel_rfl) (by kernel_rfl) s.below (by simp) (fun hne => ?_)
        repeat (go_big_quiet_step (fail))
        refine wpQuiet_nil ?_
        rintro _ ⟨s2, rfl⟩
        clear hne d1 d2 s
        have hQ : POST (.returned (.int .i64 (k : Int))) s2.w := by rw [HP.out, hfin.out]; exact ⟨rfl, s2.below⟩
        have HQ := Lib.hid hQ
        clear hQ
        go_wp2
        exact HQ.out
    · obtain rfl : k = m := by omega
      have hQ : POST (.returned (.int .i64 (k : Int))) s.w := by
        rw [HP.out, hce.out k (by rw [← HLA.out, ← HLB.out]; exact HM.out) htk]
        exact ⟨rfl, s.below⟩
      have HQ := Lib.hid hQ
      clear hQ htk
      go_wp2
      exact HQ.out

/-- The offsets of the blocks of new in old. -/
def offL (old new : List Int) (block : Int) : List Int := if block < 1 ∨ (min old.length new.length : Int) < block then [] else firstW block.toNat old new
/-- A slice of numbers, its capacity its length. -/
def OffsPost (xs : List Int) (w : World) (e : Ending) (w' : World) : Prop := ∃ a, e = .returned (.slice a xs.length xs.length) ∧ IntsIn w' a xs xs.length ∧ Below w.heap.size w w'
theorem firstW_len1 {s : Nat} {a x : List Int} (h : s ≤ x.length) : (firstW s a x).length = x.length + 1 - s := firstW_length s a x

set_option maxRecDepth 100000 in
set_option maxHeartbeats 4000000 in
theorem blockOffsets_any (a b : Option Addr) (l x : List Int) (cap capx : Nat) (block : Int) (w : World) (hl : BytesIn w a l cap) (hx : BytesIn w b x capx) (hL : l.length ≤ 1000) (hX : x.length ≤ 1000) :
    Calls Tryd.prog 51 #[.slice a l.length cap, .slice b x.length capx, .int .i64 block] w (OffsPost (offL l x block) w) := by
  have HFA : Hid (Calls Tryd.prog 77 #[.slice a l.length cap, .slice b x.length capx] w (FirstsPost (firstW 1 l l) (firstW 1 l x) w)) := Lib.hid (by
    have := firsts8_any a b l x cap capx w hl hx (by omega) (by omega)
    rw [firstW_one, firstW_one] at this
    exact this)
  have HPA : Hid (∀ (s t : Nat) (g : Option Addr) (z : List Int) (W : World), 1 ≤ s → t ≤ s → (s + t : Int) ≤ block → block ≤ (z.length : Int) → z.length ≤ 1000 → IntsIn W g (firstW s l z) (firstW s l z).length → Calls Tryd.prog 79 #[.slice g (firstW s l z).length (firstW s l z).length, .int .i64 (t : Int)] W (PairsPost (pairsL t (firstW s l z)) W)) := Lib.hid fun s t g z W h1 h2 h3 h4 h5 hI =>
    pairs_any g (firstW s l z) (firstW s l z).length t W hI (by rw [firstW_length]; omega) (by rw [firstW_length]; omega)
  have HFB : Hid (∀ (s t : Nat) (g1 g2 : Option Addr) (W : World), 1 ≤ s → t ≤ s → PairsIn W g1 (pairsL t (firstW s l l)) (pairsL t (firstW s l l)).length → PairsIn W g2 (pairsL t (firstW s l x)) (pairsL t (firstW s l x)).length → Calls Tryd.prog 78 #[.slice g1 (pairsL t (firstW s l l)).length (pairsL t (firstW s l l)).length, .slice g2 (pairsL t (firstW s l x)).length (pairsL t (firstW s l x)).length] W (FirstsPost (firstW (s + t) l l) (firstW (s + t) l x) W)) := Lib.hid fun s t g1 g2 W h1 h2 hp1 hp2 => by
    have := firsts2_any g1 g2 _ _ _ _ W hp1 hp2 (by rw [pairsL_length, firstW_length]; omega) (by rw [pairsL_length, firstW_length]; omega)
    rw [firstW_more h1 h2, firstW_more h1 h2] at this
    exact this
  have hlb : l.length ≤ 9223372036854775807 := by omega
  have hxb : x.length ≤ 9223372036854775807 := by omega
  obtain ⟨POST, hP⟩ : ∃ P, P = OffsPost (offL l x block) w := ⟨_, rfl⟩
  rw [← hP]
  have HNO : Hid ((block < 1 ∨ (min l.length x.length : Int) < block) → POST (.returned (.slice none 0 0)) w) := Lib.hid fun h => by
    rw [hP]
    have e : offL l x block = [] := by unfold offL; rw [if_pos h]
    rw [e]
    exact ⟨none, rfl, ints_nil w, Below.refl _ _⟩
  have HYES : Hid (∀ (s : Nat) (g : Option Addr) (W : World), ¬ (block < 1 ∨ (min l.length x.length : Int) < block) → (s : Int) = block → IntsIn W g (firstW s l x) (firstW s l x).length → Below w.heap.size w W → POST (.returned (.slice g (firstW s l x).length (firstW s l x).length)) W) := Lib.hid fun s g W h hs hI hB => by
    rw [hP]
    have e : offL l x block = firstW s l x := by unfold offL; rw [if_neg h, ← hs, Int.toNat_natCast]
    rw [e]
    exact ⟨g, rfl, hI, hB⟩
  have HLL := Lib.hid (And.intro hL hX)
  obtain ⟨LA, hLA⟩ : ∃ n, n = l.length := ⟨_, rfl⟩
  obtain ⟨LB, hLB⟩ : ∃ n, n = x.length := ⟨_, rfl⟩
  have HLA := Lib.hid hLA
  have HLB := Lib.hid hLB
  rw [← hLA] at hlb HNO HYES HFA ⊢
  rw [← hLB] at hxb HNO HYES HFA ⊢
  clear hL hX
  obtain ⟨m, hm⟩ : ∃ m, m = min LA LB := ⟨_, rfl⟩
  have hmin : min (LA : Int) (LB : Int) = (m : Int) := by omega
  rw [hmin] at HNO HYES
  clear hl hx hP hLA hLB
  by_cases h1 : block < 1
  · have HQ := Lib.hid (HNO.out (.inl h1))
    clear hm
    go_enter Tryd.func51, Tryd.ntmps51
    go_wp2
    exact HQ.out
  · by_cases h2 : (m : Int) < block
    · have HQ := Lib.hid (HNO.out (.inr h2))
      clear hm
      go_enter Tryd.func51, Tryd.ntmps51
      go_wp2
      exact HQ.out
    · have HNN := Lib.hid (show ¬ (block < 1 ∨ (m : Int) < block) by omega)
      have HM := Lib.hid hm
      obtain ⟨N, rfl⟩ : ∃ N : Nat, block = N := ⟨block.toNat, by omega⟩
      have hNb : N ≤ 1000 := by have := HLL.out.1; have := HLA.out; omega
      clear hm
      go_enter Tryd.func51, Tryd.ntmps51
      go_wp2_with fail
      refine HFA.out.mono ?_
      rintro e W1 ⟨g1, g2, rfl, i1, i2, hB⟩
      have HI0 := Lib.hid (And.intro i1 (And.intro i2 hB))
      clear i1 i2 hB hmin
      go_wp2
      go_loopw [7, 8, 9] (fun p q z wr => ∃ s : Nat, 1 ≤ s ∧ s ≤ N ∧ z = .int .i64 s ∧ ∃ h1 h2, p = .slice h1 (firstW s l l).length (firstW s l l).length ∧ q = .slice h2 (firstW s l x).length (firstW s l x).length ∧ IntsIn wr h1 (firstW s l l) (firstW s l l).length ∧ IntsIn wr h2 (firstW s l x) (firstW s l x).length ∧ Below w.heap.size w wr) (fun _ _ z _ => N - (intOf z).toNat)
      case atStart => exact ⟨1, by omega, by omega, rfl, _, _, rfl, rfl, HI0.out.1, HI0.out.2.1, HI0.out.2.2⟩
      case round =>
        obtain ⟨s, hs1, hs2, rfl, g3, g4, rfl, rfl, i3, i4, hB3⟩ := hrel
        by_cases hlt : s < N
        · obtain ⟨t, ht⟩ : ∃ t, t = min s (N - s) := ⟨_, rfl⟩
          have ht1 : 1 ≤ t := by omega
          have ht2 : t ≤ s := by omega
          have ht3 : s + t ≤ N := by omega
          have hmn : min (s : Int) ((N : Int) - (s : Int)) = (t : Int) := by omega
          have hNA : (N : Int) ≤ (l.length : Int) := by rw [← HLA.out]; have := HM.out; omega
          have hNB : (N : Int) ≤ (x.length : Int) := by rw [← HLB.out]; have := HM.out; omega
          have hc1 := HPA.out s t g3 l wr hs1 ht2 (by omega) hNA HLL.out.1 i3
          have hc2 := Lib.hid (fun (W : World) (hb : Below wr.heap.size wr W) => HPA.out s t g4 x W hs1 ht2 (by omega) hNB HLL.out.2 (i4.below hb))
          have hc3 := Lib.hid (fun (p1 p2 : Option Addr) (W : World) h1 h2 => HFB.out s t p1 p2 W hs1 ht2 h1 h2)
          have HB3 := Lib.hid hB3
          clear ht i3 i4 hNA hNB hB3
          generalize (firstW s l l).length = n1 at *
          generalize (firstW s l x).length = n2 at *
          go_wp2_with fail
          refine hc1.mono ?_
          rintro e W4 ⟨g5, rfl, hp5, hb5⟩
          go_wp2_with fail
          refine (hc2.out W4 hb5).mono ?_
          rintro e W5 ⟨g6, rfl, hp6, hb6⟩
          have hc4 := hc3.out _ _ W5 (hp5.below hb6) hp6
          have HBB := Lib.hid (And.intro hb5 hb6)
          clear hp5 hp6 hb5 hb6
          go_wp2_with fail
          refine hc4.mono ?_
          rintro e W6 ⟨g7, g8, rfl, i7, i8, hb7⟩
          have HI7 := Lib.hid (And.intro i7 (And.intro i8 hb7))
          clear i7 i8 hb7 hc4
          go_wp2
          go_roundw
          case rel => exact ⟨s + t, by omega, by omega, by go_num, _, _, rfl, rfl, HI7.out.1, HI7.out.2.1, HB3.out.trans ((HBB.out.1.trans ((HBB.out.2.trans (HI7.out.2.2.mono HBB.out.2.size)).mono HBB.out.1.size)).mono HB3.out.size)⟩
          case measure => simp [intOf]; omega
        · obtain rfl : s = N := by omega
          have HQ := Lib.hid (HYES.out s g4 wr HNN.out rfl i4 hB3)
          clear i3 i4 hB3
          go_wp2
          exact HQ.out
end Go.Proofs.YtdedfjkenbaebaaDoor

/- finder of package patch, and the function that it returns. -/
namespace Go.Proofs.YtdedfjkenbaebaaDoor
open Go.RowKit
set_option linter.unusedVariables false
set_option linter.unusedSimpArgs false

/-- The bytes from n on. -/
def slA8 (a : Option Addr) (cap n : Nat) : Option Addr := if cap = n then a else a.map (·.add (n * 1))
theorem cut8_l {a : Option Addr} {L cap : Nat} (n : Nat) (hn : n ≤ L) (hc : L ≤ cap) (W : World) : (Instr.slice 22 (.slice a L cap) (some (.int .i64 (n : Int))) none none).run Tryd.prog W = .ok (.slice (slA8 a cap n) (L - n) (cap - n)) W := by
  rw [run_slice_l (P := Tryd.prog) W 22 a L cap (by kernel_rfl) .i64 (n : Int) (by omega) (by omega), size_u8]
  simp only [Result.andThen_ok, sliced, Int.toNat_natCast, slA8]
theorem BytesIn.from8 {w : World} {a : Option Addr} {l : List Int} {cap : Nat} (h : BytesIn w a l cap) (n : Nat) (hn : n ≤ l.length) : BytesIn w (slA8 a cap n) (l.drop n) (cap - n) := by
  have hl := h.len
  refine ⟨by rw [List.length_drop]; omega, by have := h.capb; omega, fun hp => ?_, fun h0 => ?_⟩
  · rw [List.length_drop] at hp
    obtain ⟨b, o, rfl, hc⟩ := h.cells (by omega)
    refine ⟨b, o + n, ?_, fun i hi => ?_⟩
    · unfold slA8
      rw [if_neg (by omega)]
      simp [Addr.add_mid]
    · rw [List.length_drop] at hi
      rw [Nat.add_assoc, hc (n + i) (by omega), List.getElem?_drop]
  · unfold slA8 at h0
    by_cases hc : cap = n
    · omega
    · rw [if_neg hc] at h0
      cases a with
      | none => have := h.nil rfl; omega
      | some ad => cases h0


/-- What the found function returns. -/
def qn8 : Option (Nat × Nat) → Int × Int
  | some (q, n) => (q, n)
  | none => (0, 0)
theorem offL_ge {l x : List Int} {block : Int} {p : Nat} (h : (offL l x block).length ≤ p) (hp : p ≤ x.length) : findN l x block p = none := by
  unfold findN
  split
  · rfl
  · rename_i h1
    unfold offL at h
    split at h
    · rename_i h2
      have hl : (l.length : Int) < block := by omega
      have hw : wins block.toNat l = [] := List.eq_nil_of_length_eq_zero (by rw [wins_length]; omega)
      rw [hw]; exact if_pos rfl
    · rw [firstW_length] at h
      omega
theorem offL_at {l x : List Int} {block : Int} {p : Nat} (h : p < (offL l x block).length) : ∃ o : Int, (offL l x block)[p]? = some o ∧ p ≤ x.length ∧ ((o = -1 ∧ findN l x block p = none) ∨ ∃ q : Nat, o = q ∧ q ≤ l.length ∧ findN l x block p = some (q, comm (l.drop q) (x.drop p))) := by
  unfold offL at h ⊢
  split at h
  · simp at h
  · rename_i h1
    rw [if_neg h1]
    have hl := h
    rw [firstW_length] at hl
    have hb : p + block.toNat ≤ x.length := by omega
    have hg : (firstW block.toNat l x)[p]? = some (fidx (wins block.toNat l) ((x.drop p).take block.toNat)) := by
      unfold firstW
      rw [List.getElem?_map, wins_get hb]
      rfl
    refine ⟨_, hg, by omega, ?_⟩
    have hn : ¬ (block < 1 ∨ (x.length : Int) - p < block) := by omega
    unfold findN
    rw [if_neg hn]
    by_cases hm : fidx (wins block.toNat l) ((x.drop p).take block.toNat) = -1
    · exact .inl ⟨hm, by rw [if_pos hm]⟩
    · obtain ⟨q, hq, -, hql⟩ := fidx_at hm
      rw [wins_length] at hql
      exact .inr ⟨q, hq, by omega, by rw [if_neg hm, hq, Int.toNat_natCast]⟩

/-- The boxes that the found function reads. -/
structure FindBox (w : World) (g1 g2 g3 : Nat) (a b c : Option Addr) (l x : List Int) (cap capx : Nat) (block : Int) : Prop where
  o : w.heap[g1]? = some (.cells #[.slice c (offL l x block).length (offL l x block).length] 66 (0, 0))
  h2 : w.heap[g2]? = some (.cells #[.slice a l.length cap] 22 (0, 0))
  h3 : w.heap[g3]? = some (.cells #[.slice b x.length capx] 22 (0, 0))
  hO : IntsIn w c (offL l x block) (offL l x block).length
  hl : BytesIn w a l cap
  hx : BytesIn w b x capx
theorem FindBox.below {w w' : World} {g1 g2 g3 : Nat} {a b c : Option Addr} {l x : List Int} {cap capx : Nat} {block : Int} (h : FindBox w g1 g2 g3 a b c l x cap capx block) (hb : Below w.heap.size w w') : FindBox w' g1 g2 g3 a b c l x cap capx block :=
  ⟨heap_below h.o hb, heap_below h.h2 hb, heap_below h.h3 hb, h.hO.below hb, h.hl.below hb, h.hx.below hb⟩
/-- The found function's boxes, as it is handed to another. -/
abbrev findB (g1 g2 g3 : Nat) : Array Value := #[.pointer (some ⟨g1, 0, none⟩), .pointer (some ⟨g2, 0, none⟩), .pointer (some ⟨g3, 0, none⟩)]
theorem box_cell {w : World} {g : Nat} {v : Value} {t : TypeId} (h : w.heap[g]? = some (.cells #[v] t (0, 0))) (s : HeldW w []) : s.w.cell? ⟨g, 0, none⟩ = some v := by
  rw [cell_of (heap_below h s.below)]; rfl

set_option maxRecDepth 100000 in
set_option maxHeartbeats 4000000 in
theorem finderC_any (g1 g2 g3 : Nat) (a b c : Option Addr) (l x : List Int) (cap capx : Nat) (block : Int) (p : Nat) (w : World) (hB : FindBox w g1 g2 g3 a b c l x cap capx block) (ol : OkB l) (ox : OkB x) (hp : p ≤ x.length) (hL : l.length ≤ 1000) (hX : x.length ≤ 1000) :
    Calls Tryd.prog 52 #[.int .i64 (p : Int), .pointer (some ⟨g1, 0, none⟩), .pointer (some ⟨g2, 0, none⟩), .pointer (some ⟨g3, 0, none⟩)] w (Gives (.tuple #[.int .i64 (qn8 (findN l x block p)).1, .int .i64 (qn8 (findN l x block p)).2]) w) := by
  obtain ⟨POST, hP⟩ : ∃ P, P = Gives (.tuple #[.int .i64 (qn8 (findN l x block p)).1, .int .i64 (qn8 (findN l x block p)).2]) w := ⟨_, rfl⟩
  rw [← hP]
  have k1 : w.cell? ⟨g1, 0, none⟩ = some (.slice c (offL l x block).length (offL l x block).length) := box_cell hB.o (HeldW.start w)
  have HB := Lib.hid hB
  have hol : (offL l x block).length ≤ 1001 := by
    unfold offL
    split
    · simp
    · rw [firstW_length]; omega
  have HNO : Hid (findN l x block p = none → ∀ s : HeldW w [], POST (.returned (.tuple #[.int .i64 0, .int .i64 0])) s.w) := Lib.hid fun h s => by
    rw [hP, h]
    exact ⟨rfl, s.below⟩
  have HYES : Hid (∀ q n : Nat, findN l x block p = some (q, n) → ∀ s : HeldW w [], POST (.returned (.tuple #[.int .i64 (q : Int), .int .i64 (n : Int)])) s.w) := Lib.hid fun q n h s => by
    rw [hP, h]
    exact ⟨rfl, s.below⟩
  by_cases hge : (offL l x block).length ≤ p
  · have HN := Lib.hid (HNO.out (offL_ge hge hp))
    generalize (offL l x block).length = N at *
    have dg : decide ((N : Int) ≤ (p : Int)) = true := by simp; omega
    clear hB hP HNO HYES
    go_enter Tryd.func52, Tryd.ntmps52
    go_wp2
    exact HN.out (HeldW.start w)
  · obtain ⟨o, ho, hpx, hc⟩ := offL_at (by omega : p < (offL l x block).length)
    have hcell : ∃ bb oo, c = some ⟨bb, oo, none⟩ ∧ ∀ s : HeldW w [], s.w.cell? ⟨bb, oo + p, none⟩ = some (.int .i64 o) := by
      obtain ⟨bb, oo, e, hc⟩ := hB.hO.cells (by omega)
      refine ⟨bb, oo, e, fun s => ?_⟩
      have := hc p (by omega)
      rw [ho] at this
      exact (s.below.cell (p := ⟨bb, oo + p, none⟩) (World.block_lt_of_cell? _ _ this)).trans this
    obtain ⟨bb, oo, rfl, d4⟩ := hcell
    have k4 : w.cell? ⟨bb, oo + p, none⟩ = some (.int .i64 o) := d4 (HeldW.start w)
    clear d4
    rcases hc with ⟨rfl, hf⟩ | ⟨q, rfl, hq, hf⟩
    · have HN := Lib.hid (HNO.out hf)
      generalize (offL l x block).length = N at *
      clear hB hP HNO HYES ho
      go_enter Tryd.func52, Tryd.ntmps52
      go_wp2
      exact HN.out (HeldW.start w)
    · have HY := Lib.hid (HYES.out _ _ hf)
      have d2 := fun s => box_cell hB.h2 s
      have d3 := fun s => box_cell hB.h3 s
      have e2 := fun W => cut8_l (a := a) q hq hB.hl.len W
      have e3 := fun W => cut8_l (a := b) p hp hB.hx.len W
      have hcm : Hid (∀ s : HeldW w [], Calls Tryd.prog 53 #[.slice (slA8 a cap q) (l.length - q) (cap - q), .slice (slA8 b capx p) (x.length - p) (capx - p)] s.w (Gives (.int .i64 (comm (l.drop q) (x.drop p) : Nat)) s.w)) := Lib.hid fun s => by
        have := common_any _ _ _ _ _ _ s.w ((hB.hl.below s.below).from8 q hq) ((hB.hx.below s.below).from8 p hp) (fun y hy => ol y (List.mem_of_mem_drop hy)) (fun y hy => ox y (List.mem_of_mem_drop hy))
        rw [List.length_drop, List.length_drop] at this
        exact this
      generalize (offL l x block).length = N at *
      generalize comm (l.drop q) (x.drop p) = n at *
      generalize l.length = LL at *
      generalize x.length = XX at *
      clear hB hP HNO HYES ho
      go_enter Tryd.func52, Tryd.ntmps52
      go_wp2
      refine wp_region_class w [] (by kernel_rfl) (by kernel_rfl) (Below.refl _ _) (by simp) (fun hne => ?_)
      repeat (go_big_quiet_step ((go_at_call 53; exact HeldW.call (hcm.out _))))
      refine wpQuiet_nil ?_
      rintro _ ⟨s2, rfl⟩
      clear hne d2 d3 e2 e3
      go_wp2
      exact HY.out s2

/-- The found function. -/
def FinderPost (a b : Option Addr) (l x : List Int) (cap capx : Nat) (block : Int) (w : World) (e : Ending) (w' : World) : Prop :=
  ∃ g1 g2 g3 c, e = .returned (.func (.func 52) #[] (findB g1 g2 g3)) ∧ FindBox w' g1 g2 g3 a b c l x cap capx block ∧ Below w.heap.size w w'
abbrev bytesBox (v : Value) : Obj := .cells #[v] 22 (0, 0)
set_option maxRecDepth 100000 in
set_option maxHeartbeats 4000000 in
theorem finder_any (a b : Option Addr) (l x : List Int) (cap capx : Nat) (block : Int) (w : World) (hl : BytesIn w a l cap) (hx : BytesIn w b x capx) (hL : l.length ≤ 1000) (hX : x.length ≤ 1000) :
    Calls Tryd.prog 32 #[.slice a l.length cap, .slice b x.length capx, .int .i64 block] w (FinderPost a b l x cap capx block w) := by
  have HC : Hid (∀ W, Below w.heap.size w W → Calls Tryd.prog 51 #[.slice a l.length cap, .slice b x.length capx, .int .i64 block] W (OffsPost (offL l x block) W)) := Lib.hid fun W hb => blockOffsets_any a b l x cap capx block W (hl.below hb) (hx.below hb) hL hX
  have HLX := Lib.hid (And.intro hl hx)
  obtain ⟨POST, hP⟩ : ∃ P, P = FinderPost a b l x cap capx block w := ⟨_, rfl⟩
  have HFB : Hid (∀ g1 g2 g3 c W, W.heap[g1]? = some (.cells #[.slice c (offL l x block).length (offL l x block).length] 66 (0, 0)) → W.heap[g2]? = some (bytesBox (.slice a l.length cap)) → W.heap[g3]? = some (bytesBox (.slice b x.length capx)) → IntsIn W c (offL l x block) (offL l x block).length → Below w.heap.size w W → POST (.returned (.func (.func 52) #[] (findB g1 g2 g3))) W) := Lib.hid fun g1 g2 g3 c W h1 h2 h3 hI hB => by
    rw [hP]
    exact ⟨g1, g2, g3, c, rfl, ⟨h1, h2, h3, hI, HLX.out.1.below hB, HLX.out.2.below hB⟩, hB⟩
  rw [← hP]
  clear hP HLX hl hx
  generalize l.length = LL at *
  generalize x.length = XX at *
  go_enter Tryd.func32, Tryd.ntmps32
  go_wp2_with fail
  obtain ⟨s1, hs1⟩ : ∃ s1, s1 = ((HeldW.start w).push (bytesBox (.slice a LL cap))).push (bytesBox (.slice b XX capx)) := ⟨_, rfl⟩
  refine (HC.out _ (by have := s1.below; rw [hs1] at this; exact this)).mono ?_
  rintro e W1 ⟨c, rfl, hI, hB⟩
  have hB' : Below s1.w.heap.size s1.w W1 := by rw [hs1]; exact hB
  have hw2 : W1.heap[w.heap.size]? = some (bytesBox (.slice a LL cap)) := heap_below (s1.blocks (w.heap.size, bytesBox (.slice a LL cap)) (by simp)) hB'
  obtain ⟨g3, hg3⟩ : ∃ g3, g3 = ((HeldW.start w).push (bytesBox (.slice a LL cap))).w.heap.size := ⟨_, rfl⟩
  have hw3 : W1.heap[g3]? = some (bytesBox (.slice b XX capx)) := by
    rw [hg3]
    exact heap_below (s1.blocks (((HeldW.start w).push (bytesBox (.slice a LL cap))).w.heap.size, bytesBox (.slice b XX capx)) (by simp)) hB'
  obtain rfl : g3 = w.heap.size + 1 := by rw [hg3]; simp
  have hbW : Below w.heap.size w W1 := s1.below.trans (hB'.mono s1.below.size)
  have HW := Lib.hid (And.intro hw2 (And.intro hw3 (And.intro hI hbW)))
  clear hs1 hg3 hw2 hw3 hI hbW hB hB' s1
  go_wp2
  have hb4 : ∀ (W : World) o, Below W.heap.size W (W.alloc o) := fun W o => ((HeldW.start W).push o).below
  exact HFB.out _ _ _ c _ (World.alloc_heap_new _ _) (heap_below HW.out.1 (hb4 _ _)) (heap_below HW.out.2.1 (hb4 _ _)) (HW.out.2.2.1.below (hb4 _ _)) (HW.out.2.2.2.trans ((hb4 _ _).mono HW.out.2.2.2.size))
end Go.Proofs.YtdedfjkenbaebaaDoor

/- Readers of package wire: their blocks; left, ready, At, Rest, Fault, Fail, pass. -/
namespace Go.Proofs.YtdedfjkenbaebaaDoor
open Go.RowKit
set_option linter.unusedVariables false
set_option linter.unusedSimpArgs false

/-- It returns v; of what was there only block h has changed: it holds o now. -/
theorem gives_puts {P : Program} {f : FuncId} {args : Array Value} {v : Value} {w : World} {g : Nat} {o : Obj} (ho : w.heap[g]? = some o) (h : Calls P f args w (Gives v w)) : Calls P f args w (Puts g o v w) :=
  h.mono fun _ _ ⟨he, hb⟩ => ⟨he, But.of_below hb, heap_below ho hb⟩

end Go.Proofs.YtdedfjkenbaebaaDoor

/- Uint of package wire. -/
namespace Go.Proofs.YtdedfjkenbaebaaDoor
open Go.RowKit
set_option linter.unusedVariables false
set_option linter.unusedSimpArgs false

/-- One more digit. -/
def stepU (x d : Int) : Int := bits .or .u64 (IntKind.u64.wrap (x * 256)) (IntKind.u64.wrap d)
def beval (l : List Int) : Int := l.foldl stepU 0
theorem beval_snoc (l : List Int) {k : Nat} (hk : k < l.length) : beval (l.take (k + 1)) = stepU (beval (l.take k)) (l[k]?.getD 0) := by
  rw [List.take_succ_eq_append_getElem hk, List.getElem?_eq_getElem hk]
  simp only [beval, List.foldl_append, List.foldl_cons, List.foldl_nil, Option.getD_some]
abbrev u64O (x : Int) : Obj := .cells #[.int .u64 x] 118 (0, 0)

/-- A cell outside of the block that may be written. -/
theorem src_cellX {w : World} {h : Nat} {b o : Nat} {v : Value} (hb : b ≠ h) (hc : w.cell? ⟨b, o, none⟩ = some v) {bs : List (Nat × Obj)} (s : HeldX w h bs) : s.w.cell? ⟨b, o, none⟩ = some v := by
  rw [← hc]; unfold World.cell?; rw [s.but.block b (World.block_lt_of_cell? w _ hc) hb]

/-- The bytes from lo to hi. -/
theorem cut_mid {w : World} {a : Option Addr} {l : List Int} {cap : Nat} (h : BytesIn w a l cap) (lo hi : Nat) (h1 : lo ≤ hi) (h2 : hi ≤ l.length) :
    ∃ A, (∀ W, (Instr.slice 22 (.slice a l.length cap) (some (.int .i64 (lo : Int))) (some (.int .i64 (hi : Int))) none).run Tryd.prog W = .ok (.slice A (hi - lo) (cap - lo)) W) ∧ BytesIn w A ((l.drop lo).take (hi - lo)) (cap - lo) := by
  have hlen : ((l.drop lo).take (hi - lo)).length = hi - lo := by rw [List.length_take, List.length_drop]; omega
  refine ⟨if cap = lo then a else a.map (·.add (lo * 1)), fun W => ?_, by rw [hlen]; have := h.len; omega, by have := h.capb; omega, fun hp => ?_, fun h0 => ?_⟩
  · rw [run_slice_lh (P := Tryd.prog) W 22 a l.length cap (by kernel_rfl) .i64 .i64 (lo : Int) (hi : Int) (by omega) (by omega) (by have := h.len; omega), size_u8]
    simp only [Result.andThen_ok, sliced, Int.toNat_natCast]
  · rw [hlen] at hp
    obtain ⟨b, o, rfl, hc⟩ := h.cells (by omega)
    have := h.len
    rw [if_neg (by omega)]
    refine ⟨b, o + lo, by simp [Addr.add_mid], fun i hi => ?_⟩
    rw [hlen] at hi
    rw [Nat.add_assoc, hc (lo + i) (by omega), List.getElem?_take, if_pos (by omega), List.getElem?_drop]
  · by_cases hc : cap = lo
    · omega
    · rw [if_neg hc] at h0
      cases a with
      | none => have := h.nil rfl; omega
      | some ad => cases h0
/-- Bytes outside of a block stay there. -/
theorem src_below {w w' : World} {h : Nat} {a : Option Addr} {l : List Int} (hs : Src w h a l) (hb : Below w.heap.size w w') : Src w' h a l := fun hp => by
  obtain ⟨b, o, rfl, hne, hc⟩ := hs hp
  exact ⟨b, o, rfl, hne, fun i hi => (hb.cell (p := ⟨b, o + i, none⟩) (World.block_lt_of_cell? _ _ (hc i hi))).trans (hc i hi)⟩

section
variable (g n L dcap : Nat) (da : Option Addr) (w : World)
end
end Go.Proofs.YtdedfjkenbaebaaDoor

/- bytes.Clone, New, Bytes; Length and Expect of a reader that is not ready. -/
namespace Go.Proofs.YtdedfjkenbaebaaDoor
open Go.RowKit
set_option linter.unusedVariables false
set_option linter.unusedSimpArgs false

theorem own_setCell6 {w : World} {base b : Nat} {e : TypeId} {v : Value} {n : Nat} {xs : List Value} (h : w.ownsRow base e 1 v n xs) (hb : b < base) (i : Nat) (u : Value) : (w.setCell ⟨b, i, none⟩ u).ownsRow base e 1 v n xs :=
  ⟨h.1, h.2.imp id fun ⟨g, cap, cur, h1, h2, h3, h4⟩ => ⟨g, cap, cur, h1, h2, (Below.heap_setCell _ _ _ _ (by simp only; omega)).trans h3, h4⟩⟩

abbrev sliO (v : Value) : Obj := .cells #[v] 22 (0, 0)
/-- What the function value of Bytes does: a copy of the bytes lies behind the captured variable. -/
def Copied (V : Nat) (l : List Int) (w w' : World) : Prop := But V w.heap.size w w' ∧ ∃ v, w'.heap[V]? = some (sliO v) ∧ w'.ownsRow w.heap.size 5 1 v l.length (l.map (Value.int .u8))

/-- It returns a new slice of bytes; of what was there only block g has changed: it holds o now. -/
def MakesPuts (g : Nat) (o : Obj) (l : List Int) (w : World) (e : Ending) (w' : World) : Prop := ∃ v, e = .returned v ∧ But g w.heap.size w w' ∧ w'.heap[g]? = some o ∧ w'.ownsRow w.heap.size 5 1 v l.length (l.map (Value.int .u8))

section
variable (g n L dcap : Nat) (da : Option Addr) (w : World)
end

end Go.Proofs.YtdedfjkenbaebaaDoor
