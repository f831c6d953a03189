/- CommandMakes returns true for all numbers and parts, and changes nothing that was there. -/
import Derived.LoopTactic
import Derived.Test.Ytfikjndkjjgcjaa00LooseR
import Derived.Test.Ytfikjndkjjgcjaa00Piles
import Derived.Test.Ytfikjndkjjgcjaa04Lit
import Derived.Test.Ytfikjndkjjgcjaa04Alive
namespace Go.Proofs.Ytfikjndkjjgcjaa
open Go.RowKit Go.Shelf Go.Proofs.Ytfikjndkjjgcjaa.Plain01
set_option linter.unusedVariables false
set_option linter.unusedSimpArgs false

/-- A pointer to a new zero command. -/
def IsZ (base : Nat) : Value → World → Prop := fun v w => ∃ B, v = .pointer (some ⟨B, 0, none⟩) ∧ base ≤ B ∧ w.heap[B]? = some (cmdO 0 0 0 0 (.slice none 0 0))
theorem stable_Z (base : Nat) : Stable (fun W W' => Below W.heap.size W W') (IsZ base) := fun v w w' ⟨B, h1, h2, h3⟩ hE => ⟨B, h1, h2, (hE.block _ (Array.getElem?_eq_some_iff.1 h3).1).trans h3⟩
/-- The two new commands are apart. -/
def RelZ (i : Nat) (v : Value) (j : Nat) (u : Value) : Prop := (i = 11 ∨ i = 12) → (j = 11 ∨ j = 12) → v ≠ u
theorem relZ_no {i j : Nat} {v u : Value} (h : j ≠ 11 ∧ j ≠ 12) : RelZ i v j u := fun _ h2 => by omega

/-- The row of a copy. -/
abbrev eRow (v : Value) (l : List Int) : Row := ⟨5, 1, v, l.length, l.map (Value.int .u8)⟩
/-- The rows of the parts' copies. -/
def Elems (ls : List (List Int)) (k : Nat) (es : List Row) : Prop := es.length = k ∧ ∀ i r, es[i]? = some r → r.e = 5 ∧ r.size = 1 ∧ r.n = (partOf ls i).length ∧ r.xs = (partOf ls i).map (Value.int .u8)
theorem elems_nil (ls : List (List Int)) : Elems ls 0 [] := ⟨rfl, fun i r h => by simp at h⟩
theorem elems_snoc {ls : List (List Int)} {k : Nat} {es : List Row} (h : Elems ls k es) (v : Value) : Elems ls (k + 1) (es ++ [⟨5, 1, v, (partOf ls k).length, (partOf ls k).map (Value.int .u8)⟩]) := by
  refine ⟨by simp [h.1], fun i r hr => ?_⟩
  by_cases hi : i < k
  · rw [List.getElem?_append_left (by rw [h.1]; exact hi)] at hr
    exact h.2 i r hr
  · rw [List.getElem?_append_right (by rw [h.1]; omega), h.1] at hr
    by_cases hik : i = k
    · subst hik
      simp at hr
      subst hr
      exact ⟨rfl, rfl, rfl, rfl⟩
    · rw [List.getElem?_eq_none (by simp; omega)] at hr
      cases hr
/-- The slice of the copies, as it is handed on. -/
theorem piles_parts {w0 : World} {rs es : List Row} {ls : List (List Int)} {N co : Nat} {ao : Option Addr} (S : Piles w0 rs) (ho : (⟨25, 1, .slice ao N co, N, es.map (·.v)⟩ : Row) ∈ rs) (hes : ∀ r ∈ es, r ∈ rs) (hE : Elems ls N es) (hN : ls.length = N) : PartsIn S.w ao ls := by
  obtain ⟨a, cap, hv, _, hnc, hcb, hcells⟩ := S.view ho
  simp only [Value.slice.injEq, true_and] at hv
  obtain ⟨rfl, rfl⟩ := hv
  refine ⟨by rw [hN]; exact Nat.le_trans hnc hcb, fun hp => ?_⟩
  obtain ⟨g, rfl, hc⟩ := hcells (by simp only; omega)
  refine ⟨g, 0, rfl, fun i hi => ?_⟩
  have hil : i < es.length := by rw [hE.1]; omega
  have her : es[i]? = some es[i] := List.getElem?_eq_getElem hil
  obtain ⟨q1, q2, q3, q4⟩ := hE.2 i _ her
  obtain ⟨hl, A, C, hA, hAb⟩ := S.bytes (v := es[i].v) (n := (partOf ls i).length) (l := partOf ls i) (by
    have := hes es[i] (List.getElem_mem hil)
    rwa [show es[i] = (⟨5, 1, es[i].v, (partOf ls i).length, (partOf ls i).map (Value.int .u8)⟩ : Row) by rw [← q1, ← q2, ← q3, ← q4]] at this)
  refine ⟨A, C, ?_, hAb⟩
  rw [Nat.zero_add, ← hA]
  exact (hc i _ (by rw [List.getElem?_map, her]; rfl)).1

/-- The same rows, whatever bytes they hold. -/
def LikeE (es es' : List Row) : Prop := es'.length = es.length ∧ ∀ (i : Nat) (r r' : Row), es[i]? = some r → es'[i]? = some r' → r'.size = 1 ∧ r'.v = r.v ∧ r'.n = r.n ∧ ∀ u ∈ r'.xs, ∃ z : Int, u = .int .u8 z
theorem like_refl {ls : List (List Int)} {k : Nat} {es : List Row} (h : Elems ls k es) : LikeE es es := ⟨rfl, fun i r r' h1 h2 => by
  obtain rfl := Option.some.inj (h1.symm.trans h2)
  obtain ⟨_, q2, _, q4⟩ := h.2 i r h1
  refine ⟨q2, rfl, rfl, fun u hu => ?_⟩
  rw [q4] at hu
  obtain ⟨z, _, rfl⟩ := List.mem_map.1 hu
  exact ⟨z, rfl⟩⟩
theorem like_cell {w : World} {fx es es2 : List Row} (hL : LikeE es es2) (S : Piles w (fx ++ es2)) {j n q C : Nat} {A : Option Addr} {r : Row} (hr : es[j]? = some r) (hv : r.v = .slice A n C) (hn : r.n = n) (hq : q < n) :
    ∃ g, A = some ⟨g, 0, none⟩ ∧ ∃ z : Int, S.w.cell? ⟨g, q, none⟩ = some (.int .u8 z) ∧ S.w.frozen? ⟨g, q, none⟩ = false ∧ ∀ y : Int, ∃ es3, Hid (LikeE es es3) ∧ ∃ S3 : Piles w (fx ++ es3), S.w.setCell ⟨g, q, none⟩ (.int .u8 y) = S3.w := by
  have hjl : j < es2.length := by rw [hL.1]; exact (List.getElem?_eq_some_iff.1 hr).1
  obtain ⟨r2, hr2⟩ : ∃ r2, es2[j]? = some r2 := ⟨_, List.getElem?_eq_getElem hjl⟩
  obtain ⟨l1, l2, l3, l4⟩ := hL.2 j r r2 hr hr2
  have hmem : r2 ∈ fx ++ es2 := List.mem_append_right _ (List.mem_of_getElem? hr2)
  obtain ⟨a, cap, hva, _, _, _, hc⟩ := S.view hmem
  rw [l2, l3, hn, hv] at hva
  simp only [Value.slice.injEq, true_and] at hva
  obtain ⟨rfl, rfl⟩ := hva
  obtain ⟨g, rfl, hcc⟩ := hc (by rw [l3, hn]; omega)
  have hlen : r2.xs.length = n := by have := (S.rows _ hmem).1; rw [l1, l3, hn] at this; omega
  have hx : r2.xs[q]? = some r2.xs[q] := List.getElem?_eq_getElem (by omega)
  obtain ⟨z, hz⟩ := l4 _ (List.getElem_mem (by omega : q < r2.xs.length))
  obtain ⟨c1, c2⟩ := hcc q _ hx
  rw [hz] at c1
  refine ⟨g, rfl, z, c1, c2, fun y => ?_⟩
  obtain ⟨S3, hS3⟩ := S.storeAt (fx.length + j) r2 (by rw [List.getElem?_append_right (by omega)]; simpa using hr2) g n C (l2.trans hv) (l3.trans hn) q (by rw [l1]; omega) (.int .u8 y)
  obtain ⟨S4, hS4⟩ := S3.conv (fx ++ es2.set j { r2 with xs := r2.xs.set q (.int .u8 y) }) (by rw [List.set_append_right _ _ (by omega)]; simp) (List.Perm.refl _)
  refine ⟨_, Lib.hid ?_, S4, hS3.trans hS4⟩
  refine ⟨by rw [List.length_set]; exact hL.1, fun i r' r'' h1 h2 => ?_⟩
  rw [List.getElem?_set] at h2
  by_cases hij : j = i
  · subst hij
    rw [if_pos rfl, if_pos hjl] at h2
    obtain rfl := Option.some.inj h2
    obtain rfl := Option.some.inj (hr.symm.trans h1)
    refine ⟨l1, l2, l3, fun u hu => ?_⟩
    rcases List.mem_or_eq_of_mem_set hu with hu | rfl
    · exact l4 u hu
    · exact ⟨y, rfl⟩
  · rw [if_neg hij] at h2
    exact hL.2 i r' r'' h1 h2

set_option maxRecDepth 100000 in
set_option maxHeartbeats 4000000 in
theorem commandMakes_big (x0 x1 x2 : Int) (pa : Option Addr) (n pcap : Nat) (hbig : 30 < n) (hmax : n ≤ 9223372036854775807) (w : World) : Calls Try.prog 3 #[.agg #[.int .i64 x0, .int .i64 x1, .int .i64 x2], .slice pa n pcap] w (Gives (.bool true) w) := by
  have hd : decide (30 < (n : Int)) = true := by simp; omega
  go_enter Try.func3, Try.ntmps3
  go_wp2_with fail
  refine (HeldW.call (s := (HeldW.start w).push (.cells #[.int .i64 x0, .int .i64 x1, .int .i64 x2] 22 (0, 0))) (alive04_gives _)).mono ?_
  rintro e _ ⟨rfl, s1, rfl⟩
  go_wp2_with fail
  go_wp2
  go_ret
  exact ⟨rfl, s1.below⟩

/-- The box of the three numbers. -/
abbrev xRow (b : Nat) (x0 x1 x2 : Int) : Row := ⟨22, 3, .slice (some ⟨b, 0, none⟩) 1 1, 1, [.int .i64 x0, .int .i64 x1, .int .i64 x2]⟩

set_option maxRecDepth 100000 in
set_option maxHeartbeats 8000000 in
theorem commandMakes_small (x0 x1 x2 : Int) (pa : Option Addr) (ls : List (List Int)) (pcap : Nat) (w : World) (hp : PartsOf w pa ls pcap) (hsmall : ls.length ≤ 30) :
    Calls Try.prog 3 #[.agg #[.int .i64 x0, .int .i64 x1, .int .i64 x2], .slice pa ls.length pcap] w (Gives (.bool true) w) := by
  have HP := Lib.hid hp
  obtain ⟨E8, hE8⟩ := elemW8
  obtain ⟨EP, hEP⟩ := elemWP
  have HE8 := Lib.hid hE8
  have HEP := Lib.hid hEP
  have HF := Lib.hid (show ∀ k, k ≤ ls.length → (∀ j, j < k → (partOf ls j).length ≤ 200) → (ls.take k).flatten.length ≤ 200 * k from fun k => by
    induction k with
    | zero => intro _ _; simp
    | succ k ih =>
      intro hk h
      rw [take_flat ls (by omega), List.length_append]
      have h1 := ih (by omega) (fun j hj => h j (by omega))
      have h2 := h k (by omega)
      omega)
  obtain ⟨N, hN⟩ : ∃ N, N = ls.length := ⟨_, rfl⟩
  rw [← hN] at hsmall ⊢
  have HN := Lib.hid hN
  have hd : decide (30 < (N : Int)) = false := by simp; omega
  clear hp hN hE8 hEP
  go_enter Try.func3, Try.ntmps3
  go_wp2
  obtain ⟨S0, hS0⟩ := Piles.start w 22 #[.int .i64 x0, .int .i64 x1, .int .i64 x2] 3 rfl
  obtain ⟨S1, hS1⟩ := S0.nilRow 5
  obtain ⟨S2, hS2⟩ := S1.nilRow 25
  rw [hS0, hS1, hS2]
  clear hS0 hS1 hS2 S0 S1 hd
  go_loopw [5, 6, 8, 20] (fun vo va _ i wr => ∃ k : Nat, k ≤ N ∧ i = .int .i64 k ∧ Hid (∀ j, j < k → (partOf ls j).length ≤ 200) ∧ ∃ es : List Row, Hid (Elems ls k es) ∧ ∃ S : Piles w (⟨25, 1, vo, k, es.map (·.v)⟩ :: ⟨5, 1, va, (ls.take k).flatten.length, (ls.take k).flatten.map (Value.int .u8)⟩ :: xRow w.heap.size x0 x1 x2 :: es), wr = S.w) (fun _ _ _ i _ => N - (intOf i).toNat)
  case atStart => exact ⟨0, by omega, rfl, fun j hj => by omega, [], elems_nil ls, S2, rfl⟩
  case round =>
    clear S2
    obtain ⟨k, hk, rfl, hall, es, hE, S, rfl⟩ := hrel
    by_cases hlt : k < N
    · have hltl : k < ls.length := by have := HN.out; omega
      obtain ⟨b, o, rfl, hc⟩ := HP.out.parts.cells (by omega)
      obtain ⟨a, cap, hcell0, hbytes⟩ := hc k hltl
      have hbk := World.block_lt_of_cell? w _ hcell0
      have hcell : S.w.cell? ⟨b, o + k, none⟩ = some (.slice a (partOf ls k).length cap) := by rw [S.below.cell (p := ⟨b, o + k, none⟩) hbk, hcell0]
      have hmax : (partOf ls k).length ≤ 9223372036854775807 := Nat.le_trans hbytes.len hbytes.capb
      by_cases hlong : 200 < (partOf ls k).length
      · clear hc hcell0 hbytes
        generalize (partOf ls k).length = n at hcell hmax hlong
        go_wp2_with fail
        refine (Piles.call (S := S) (alive04_gives _)).mono ?_
        rintro e _ ⟨rfl, s1, rfl⟩
        clear hcell
        go_wp2
        go_ret
        exact ⟨rfl, s1.below⟩
      · have hle := HF.out k (by have := HN.out; omega) hall.out
        have hHALL := Lib.hid (show ∀ j, j < k + 1 → (partOf ls j).length ≤ 200 from fun j hj => by
          by_cases h : j < k
          · exact hall.out j h
          · obtain rfl : j = k := by omega
            omega)
        have HT := Lib.hid (take_flat ls hltl)
        have HES := Lib.hid (fun v => elems_snoc hE.out v)
        obtain ⟨S1, hS1⟩ := S.empty 5 1
        have HS1 := Lib.hid hS1
        have HBY := Lib.hid hbytes
        have hlong' : (partOf ls k).length ≤ 200 := by omega
        clear hall hc hcell0 hbytes hlong hS1 hltl
        generalize partOf ls k = l at hcell hmax hlong' HT HES HBY
        obtain ⟨n, hn⟩ : ∃ n, n = l.length := ⟨_, rfl⟩
        rw [← hn] at hcell hmax hlong'
        have HNL := Lib.hid hn
        obtain ⟨T, hT⟩ : ∃ T, T = (ls.take k).flatten.length := ⟨_, rfl⟩
        have hTle : T ≤ 6000 := by have := HN.out; omega
        have HB1 := Lib.hid (show 0 + n ≤ maxLen ∧ (0 + n) * E8.bytes ≤ 140737488355328 by rw [HE8.out]; unfold maxLen; omega)
        have HB2 := Lib.hid (show k + 1 ≤ maxLen ∧ (k + 1) * EP.bytes ≤ 140737488355328 by rw [HEP.out]; unfold maxLen; omega)
        have HB3 := Lib.hid (show (ls.take k).flatten.length + n ≤ maxLen ∧ ((ls.take k).flatten.length + n) * E8.bytes ≤ 140737488355328 by rw [HE8.out, ← hT]; unfold maxLen; omega)
        have HML := Lib.hid (show (l.map (Value.int .u8)).length = n by rw [List.length_map, hn])
        clear hn hT
        go_wp2_with (first
          | (rw [HS1.out]; refine wpList_append_piles E8 S1 (.tmp 29) (.tmp 30) rfl rfl rfl a n cap (l.map (Value.int .u8)) HML.out rfl ((HBY.out.below S1.below).nil2 HNL.out) ((HBY.out.below S1.below).news) (one_bytes _) HB1.out.1 HB1.out.2 ?_; intro v1 S2; obtain ⟨S3, hS3⟩ := S2.conv (⟨5, 1, v1, n, l.map (Value.int .u8)⟩ :: _) (by rw [Nat.zero_add, List.nil_append]) (List.Perm.refl _); obtain ⟨hl3, A, C, rfl, hA⟩ := S3.bytes (v := v1) (n := n) (l := l) List.mem_cons_self; rw [hS3]; clear hS3 hA hl3 S2)
          | (refine wpList_append_one EP S3 (.slice A n C) rfl (.tmp 28) (.tmp 32) rfl rfl rfl rfl HB2.out.1 HB2.out.2 ?_; intro v2 S5)
          | (obtain ⟨S6, hS6⟩ := S5.perm (perm_third _ _ _ _); rw [hS6]; refine wpList_append_piles E8 S6 (.tmp 34) (.tmp 35) rfl rfl rfl a n cap (l.map (Value.int .u8)) HML.out rfl ((HBY.out.below S6.below).nil2 HNL.out) ((HBY.out.below S6.below).news) (one_bytes _) HB3.out.1 HB3.out.2 ?_; intro v3 S7))
        go_roundw
        case rel =>
          obtain ⟨S8, hS8⟩ := S7.perm (perm_snoc _ _ _ _ _)
          obtain ⟨S9, hS9⟩ := S8.conv (⟨25, 1, v2, k + 1, (es ++ [eRow (.slice A n C) l]).map (fun r : Row => r.v)⟩ :: ⟨5, 1, v3, (ls.take (k + 1)).flatten.length, (ls.take (k + 1)).flatten.map (Value.int .u8)⟩ :: xRow w.heap.size x0 x1 x2 :: (es ++ [eRow (.slice A n C) l]))
            (by rw [show eRow (.slice A n C) l = (⟨5, 1, .slice A n C, n, l.map (Value.int .u8)⟩ : Row) by unfold eRow; rw [← HNL.out], HT.out, List.length_append, List.map_append, List.map_append, ← HNL.out]; rfl) (List.Perm.refl _)
          exact ⟨k + 1, by omega, by go_num, hHALL.out, _, HES.out (.slice A n C), S9, hS8.trans hS9⟩
        case measure => simp [intOf]; omega
    · obtain rfl : k = N := by omega
      have hkl := HN.out
      have htk : ls.take k = ls := by rw [hkl, List.take_length]
      have hTle := HF.out k (by omega) hall.out
      rw [htk] at hTle
      obtain ⟨F, hF⟩ : ∃ F, F = ls.flatten := ⟨_, rfl⟩
      obtain ⟨T, hTe⟩ : ∃ T, T = F.length := ⟨_, rfl⟩
      obtain ⟨S1, hS1⟩ := S.conv (⟨25, 1, u5, k, es.map (fun r : Row => r.v)⟩ :: ⟨5, 1, u6, T, F.map (Value.int .u8)⟩ :: xRow w.heap.size x0 x1 x2 :: es) (by rw [htk, hTe, hF]) (List.Perm.refl _)
      rw [hS1]
      clear hS1 S htk hall
      obtain ⟨ao, co, hvo, hao, hkc, hcob, hoc⟩ := S1.view (r := ⟨25, 1, u5, k, es.map (fun r : Row => r.v)⟩) (by simp)
      simp only at hvo hkc hcob
      subst hvo
      obtain ⟨hTT, aa, ca, hva, hab⟩ := S1.bytes (v := u6) (n := T) (l := F) (by simp)
      subst hva
      have hpi := piles_parts S1 (ao := ao) (co := co) (N := k) (es := es) (ls := ls) (by simp) (fun r hr => by simp [hr]) hE.out hkl.symm
      have HPI := Lib.hid hpi
      have HKL := Lib.hid hkl
      have HFL := Lib.hid hF
      have HTE := Lib.hid hTT
      obtain ⟨hxlt, hxc⟩ := S1.boxCells (t := 22) (size := 3) (b := w.heap.size) (xs := [.int .i64 x0, .int .i64 x1, .int .i64 x2]) (by simp)
      have HX0 := Lib.hid (show ∀ W, Below S1.w.heap.size S1.w W → W.cell? ⟨w.heap.size, 0, none⟩ = some (.int .i64 x0) from fun W hW => (hW.cell (p := ⟨w.heap.size, 0, none⟩) hxlt).trans (hxc 0 _ rfl))
      have HX1 := Lib.hid (show ∀ W, Below S1.w.heap.size S1.w W → W.cell? ⟨w.heap.size, 1, none⟩ = some (.int .i64 x1) from fun W hW => (hW.cell (p := ⟨w.heap.size, 1, none⟩) hxlt).trans (hxc 1 _ rfl))
      have HX2 := Lib.hid (show ∀ W, Below S1.w.heap.size S1.w W → W.cell? ⟨w.heap.size, 2, none⟩ = some (.int .i64 x2) from fun W hW => (hW.cell (p := ⟨w.heap.size, 2, none⟩) hxlt).trans (hxc 2 _ rfl))
      have HTM := Lib.hid (show ls.flatten.length ≤ 140737488351232 by omega)
      clear hxc hxlt hpi hab hoc hao hkl hF hTe hTT hTle
      go_wp2_with fail
      refine wp_region_looseR 13
        [IsV (.pointer (some ⟨w.heap.size, 0, none⟩)), IsV (.int .i64 x0), IsV (.pointer (some ⟨w.heap.size, 1, none⟩)), IsV (.int .i64 x1), IsV (.pointer (some ⟨w.heap.size, 2, none⟩)), IsV (.int .i64 x2), IsV (cmdV 1 x0 x1 x2 (.slice none 0 0)),
         IsV (.pointer (some ⟨w.heap.size, 0, none⟩)), IsV (.int .i64 x0), IsV (.slice ao k co), IsOwn S1.w.heap.size (fun v => cmdV 2 x0 0 0 v) F, IsZ S1.w.heap.size, IsZ S1.w.heap.size]
        [⟨38, [], [2]⟩, ⟨39, [(0, 38)], []⟩, ⟨40, [], [2]⟩, ⟨41, [(2, 40)], []⟩, ⟨42, [], [2]⟩, ⟨43, [(4, 42)], []⟩, ⟨44, [(1, 39), (3, 41), (5, 43)], []⟩, ⟨45, [], [2]⟩, ⟨46, [(7, 45)], []⟩, ⟨47, [], [5]⟩, ⟨48, [(8, 46), (9, 47)], []⟩, ⟨9, [], []⟩, ⟨10, [], []⟩]
        (fun W => Below S1.w.heap.size S1.w W) (fun W W' => Below W.heap.size W W') RelZ (by kernel_rfl) (by kernel_rfl) (by kernel_rfl) rfl rfl (Below.refl _ S1.w).drew ?_
        ⟨?_, ?_, ?_, ?_, ?_, ?_, ?_, ?_, ?_, ?_, ?_, ?_, ?_, trivial⟩ ?_
      · repeat (first | (intro _ h; cases h; done) | refine List.forall_mem_cons.2 ⟨stable_V _ _, ?_⟩ | refine List.forall_mem_cons.2 ⟨stable_own _ _ _, ?_⟩ | refine List.forall_mem_cons.2 ⟨stable_Z _, ?_⟩)
      · intro A W hC hd hx
        have hk : ∀ v, A.eval (.const v) = v := fun _ => rfl
        have hy0 : A.eval (.tmp 2) = .pointer (some ⟨w.heap.size, 0, none⟩) := hx 2 (by simp)
        clear hd
        generalize A.eval = ρ at hk hy0 ⊢
        simp [go_sem, looseUpon, factOf, hk, hy0]
        exact ⟨hC, Below.refl _ _, fun _ _ _ _ => relZ_no (by omega)⟩
      · intro A W hC hd hx
        have hk : ∀ v, A.eval (.const v) = v := fun _ => rfl
        have c0 := HX0.out W hC
        simp [factOf] at hd
        generalize A.eval = ρ at hd hk ⊢
        simp [go_sem, looseUpon, factOf, hd, hk, c0]
        exact ⟨hC, Below.refl _ _, fun _ _ _ _ => relZ_no (by omega)⟩
      · intro A W hC hd hx
        have hk : ∀ v, A.eval (.const v) = v := fun _ => rfl
        have hy0 : A.eval (.tmp 2) = .pointer (some ⟨w.heap.size, 0, none⟩) := hx 2 (by simp)
        clear hd
        generalize A.eval = ρ at hk hy0 ⊢
        simp [go_sem, looseUpon, factOf, hk, hy0]
        exact ⟨hC, Below.refl _ _, fun _ _ _ _ => relZ_no (by omega)⟩
      · intro A W hC hd hx
        have hk : ∀ v, A.eval (.const v) = v := fun _ => rfl
        have c0 := HX1.out W hC
        simp [factOf] at hd
        generalize A.eval = ρ at hd hk ⊢
        simp [go_sem, looseUpon, factOf, hd, hk, c0]
        exact ⟨hC, Below.refl _ _, fun _ _ _ _ => relZ_no (by omega)⟩
      · intro A W hC hd hx
        have hk : ∀ v, A.eval (.const v) = v := fun _ => rfl
        have hy0 : A.eval (.tmp 2) = .pointer (some ⟨w.heap.size, 0, none⟩) := hx 2 (by simp)
        clear hd
        generalize A.eval = ρ at hk hy0 ⊢
        simp [go_sem, looseUpon, factOf, hk, hy0]
        exact ⟨hC, Below.refl _ _, fun _ _ _ _ => relZ_no (by omega)⟩
      · intro A W hC hd hx
        have hk : ∀ v, A.eval (.const v) = v := fun _ => rfl
        have c0 := HX2.out W hC
        simp [factOf] at hd
        generalize A.eval = ρ at hd hk ⊢
        simp [go_sem, looseUpon, factOf, hd, hk, c0]
        exact ⟨hC, Below.refl _ _, fun _ _ _ _ => relZ_no (by omega)⟩
      · intro A' W hC hd hx
        refine ⟨fun g hg => (by cases hg), ?_⟩
        simp [factOf] at hd
        obtain ⟨h39, h41, h43⟩ := hd
        refine loose_call rfl Try.func10 (by kernel_rfl) (by kernel_rfl) ?_
        simp only [List.map_toArray, List.map_cons, List.map_nil, h39, h41, h43]
        refine (mcopy_any x0 x1 x2 W).mono ?_
        rintro e' W' ⟨rfl, hE⟩
        exact ⟨_, rfl, rfl, hC.trans (hE.mono hC.size), hE, fun _ _ _ _ => relZ_no (by omega)⟩
      · intro A W hC hd hx
        have hk : ∀ v, A.eval (.const v) = v := fun _ => rfl
        have hy0 : A.eval (.tmp 2) = .pointer (some ⟨w.heap.size, 0, none⟩) := hx 2 (by simp)
        clear hd
        generalize A.eval = ρ at hk hy0 ⊢
        simp [go_sem, looseUpon, factOf, hk, hy0]
        exact ⟨hC, Below.refl _ _, fun _ _ _ _ => relZ_no (by omega)⟩
      · intro A W hC hd hx
        have hk : ∀ v, A.eval (.const v) = v := fun _ => rfl
        have c0 := HX0.out W hC
        simp [factOf] at hd
        generalize A.eval = ρ at hd hk ⊢
        simp [go_sem, looseUpon, factOf, hd, hk, c0]
        exact ⟨hC, Below.refl _ _, fun _ _ _ _ => relZ_no (by omega)⟩
      · intro A W hC hd hx
        have hk : ∀ v, A.eval (.const v) = v := fun _ => rfl
        have hy0 : A.eval (.tmp 5) = .slice ao k co := hx 5 (by simp)
        clear hd
        generalize A.eval = ρ at hk hy0 ⊢
        simp [go_sem, looseUpon, factOf, hk, hy0]
        exact ⟨hC, Below.refl _ _, fun _ _ _ _ => relZ_no (by omega)⟩
      · intro A' W hC hd hx
        refine ⟨fun g hg => (by cases hg), ?_⟩
        simp [factOf] at hd
        obtain ⟨h46, h47⟩ := hd
        refine loose_call rfl Try.func11 (by kernel_rfl) (by kernel_rfl) ?_
        simp only [List.map_toArray, List.map_cons, List.map_nil, h46, h47]
        have hlit := mliteral_any x0 ls ao co W (HPI.out.below hC) HTM.out
        rw [← HKL.out, ← HFL.out] at hlit
        refine hlit.mono ?_
        rintro e' W' ⟨v, rfl, s, rfl⟩
        refine ⟨_, rfl, ?_, hC.trans (s.below.mono hC.size), s.below, fun _ _ _ _ => relZ_no (by omega)⟩
        obtain ⟨A2, C2, rfl, _⟩ := s.bytes
        have ho := s.own
        simp only [List.length_map] at ho
        exact ⟨A2, C2, rfl, ho.mono hC.size⟩
      · intro A' W hC hd hx
        clear hd
        generalize A'.eval = ρ
        simp [go_sem, looseUpon, factOf]
        refine ⟨⟨_, rfl, hC.size, World.alloc_heap_new _ _⟩, hC.alloc hC.size _, (Below.refl _ _).alloc (Nat.le_refl _) _, fun j u hj hf h1 _ => ?_⟩
        obtain rfl : j = 12 := by omega
        obtain ⟨B', rfl, _, hb'⟩ : IsZ S1.w.heap.size u W := hf
        intro he
        have hlt := (Array.getElem?_eq_some_iff.1 hb').1
        injection he with he
        injection he with he
        injection he with he
        omega
      · intro A' W hC hd hx
        clear hd
        generalize A'.eval = ρ
        simp [go_sem, looseUpon, factOf]
        refine ⟨⟨_, rfl, hC.size, World.alloc_heap_new _ _⟩, hC.alloc hC.size _, (Below.refl _ _).alloc (Nat.le_refl _) _, fun j u hj hf h1 _ => ?_⟩
        obtain rfl : j = 11 := by omega
        obtain ⟨B', rfl, _, hb'⟩ : IsZ S1.w.heap.size u W := hf
        intro he
        have hlt := (Array.getElem?_eq_some_iff.1 hb').1
        injection he with he
        injection he with he
        injection he with he
        omega
      · intro W hC
        simp only [ends]
        rintro _ rfl _ rfl _ rfl _ rfl _ rfl _ rfl _ rfl _ rfl _ rfl _ rfl _ ⟨A', C', hv10, hown⟩ _ ⟨B9, rfl, hB9, hz9⟩ _ ⟨B10, rfl, hB10, hz10⟩ hrel
        rw [HTE.out] at hv10 hown
        subst hv10
        simp only [putAll, List.zip_cons_cons, List.zip_nil_left, List.foldl_cons, List.foldl_nil, Act.put, List.setIfInBounds_toArray, List.set_cons_succ, List.set_cons_zero]
        have hne : B9 ≠ B10 := by
          rcases hrel 11 12 _ _ rfl rfl (by omega) with h | h
          · have := h (.inl rfl) (.inr rfl)
            intro he; subst he; exact this rfl
          · have := h (.inr rfl) (.inl rfl)
            intro he; subst he; exact this rfl
        obtain ⟨r0, r1, r2, r3, r4⟩ := cmd_cells hz9
        have r5 := fun i => free_of hz9 i
        obtain ⟨q0, q1, q2, q3, q4⟩ := cmd_cells hz10
        have q5 := fun i => free_of hz10 i
        have HOWN := Lib.hid hown
        have HC := Lib.hid hC
        have HZ9 := Lib.hid hz9
        have HZ10 := Lib.hid hz10
        clear hown hC hz9 hz10 hrel
        go_wp2_with fail
        obtain ⟨P1, hP1⟩ := S1.fresh HC.out ⟨27, 5, .slice (some ⟨B9, 0, none⟩) 1 1, 1, [.int .i64 0, .int .i64 0, .int .i64 0, .int .i64 0, .slice none 0 0]⟩ (box_at (by have := S1.below.size; omega) HZ9.out rfl) (fun g hg => by simp [Value.ownBlock] at hg; omega)
        have hlt1 := S1.ltAll
        obtain ⟨P2, hP2⟩ := P1.add ⟨27, 5, .slice (some ⟨B10, 0, none⟩) 1 1, 1, [.int .i64 0, .int .i64 0, .int .i64 0, .int .i64 0, .slice none 0 0]⟩ (box_at (by have := S1.below.size; omega) (by rw [← hP1]; exact HZ10.out) rfl) (fun q hq => by
          unfold ApartV
          right
          rcases List.mem_cons.1 hq with rfl | hq
          · simp [Value.ownBlock]; omega
          · intro h
            have := hlt1 q hq B10 h.symm
            omega)
        obtain ⟨P3, hP3⟩ := P2.add ⟨5, 1, .slice A' T C', T, F.map (Value.int .u8)⟩ (by rw [← hP2, ← hP1]; exact HOWN.out.mono S1.below.size) (fun q hq => by
          rcases HOWN.out.2 with ⟨h0, _⟩ | ⟨gD, capD, curD, h0, hgD, hbD, _⟩
          · left; rw [h0]; rfl
          · right
            rw [h0]
            simp only [Value.ownBlock]
            rcases List.mem_cons.1 hq with rfl | hq
            · intro h
              injection h with h
              subst h
              rw [HZ10.out] at hbD
              injection hbD with hbD
              injection hbD with _ hbD
              cases hbD
            · rcases List.mem_cons.1 hq with rfl | hq
              · intro h
                injection h with h
                subst h
                rw [HZ9.out] at hbD
                injection hbD with hbD
                injection hbD with _ hbD
                cases hbD
              · intro h
                have := hlt1 q hq gD h.symm
                omega)
        obtain ⟨P4, hP4⟩ := P3.put5 2 rfl (.int .i64 1) (.int .i64 x0) (.int .i64 x1) (.int .i64 x2) (.slice none 0 0)
        obtain ⟨P5, hP5⟩ := P4.put5 1 rfl (.int .i64 2) (.int .i64 x0) (.int .i64 0) (.int .i64 0) (.slice A' T C')
        rw [hP1, hP2, hP3, hP4, hP5]
        clear hP1 hP2 hP3 hP4 hP5 P1 P2 P3 P4 hlt1 r0 r1 r2 r3 r4 r5 q0 q1 q2 q3 q4 q5 hB9 hB10
        obtain ⟨fx, hfx⟩ : ∃ fx : List Row, fx = [⟨5, 1, .slice A' T C', T, F.map (Value.int .u8)⟩, ⟨27, 5, .slice (some ⟨B10, 0, none⟩) 1 1, 1, [.int .i64 2, .int .i64 x0, .int .i64 0, .int .i64 0, .slice A' T C']⟩,
          ⟨27, 5, .slice (some ⟨B9, 0, none⟩) 1 1, 1, [.int .i64 1, .int .i64 x0, .int .i64 x1, .int .i64 x2, .slice none 0 0]⟩, ⟨25, 1, .slice ao k co, k, es.map (fun r : Row => r.v)⟩, ⟨5, 1, .slice aa T ca, T, F.map (Value.int .u8)⟩, xRow w.heap.size x0 x1 x2] := ⟨_, rfl⟩
        obtain ⟨P6, hP6⟩ := P5.conv (fx ++ es) (by rw [hfx]; rfl) (List.Perm.refl _)
        rw [hP6]
        have HFX := Lib.hid hfx
        have HLR := Lib.hid (like_refl hE.out)
        have HE := Lib.hid hE.out
        clear hfx hP6 P5 hE
        go_loopw [12, 13, 51, 57] (fun _ _ i _ wr => ∃ j : Nat, j ≤ k ∧ i = .int .i64 j ∧ ∃ es' : List Row, Hid (LikeE es es') ∧ ∃ S : Piles w (fx ++ es'), wr = S.w) (fun _ _ i _ _ => k - (intOf i).toNat)
        case atStart => exact ⟨0, by omega, rfl, es, HLR, P6, rfl⟩
        case round =>
          clear P6
          obtain ⟨j, hj, rfl, es1, hL, S, rfl⟩ := hrel
          by_cases hlt : j < k
          · obtain ⟨_, _, hva, _, _, _, hoc0⟩ := S.view (r := ⟨25, 1, .slice ao k co, k, es.map (fun r : Row => r.v)⟩) (by rw [HFX.out]; simp)
            simp only [Value.slice.injEq, true_and] at hva
            obtain ⟨rfl, rfl⟩ := hva
            obtain ⟨go, rfl, hoc⟩ := hoc0 (by simp only; omega)
            have hjl : j < es.length := by rw [HE.out.1]; exact hlt
            obtain ⟨r, hr⟩ : ∃ r, es[j]? = some r := ⟨_, List.getElem?_eq_getElem hjl⟩
            obtain ⟨r1, hr1⟩ : ∃ r1, es1[j]? = some r1 := ⟨_, List.getElem?_eq_getElem (by rw [hL.out.1]; exact hjl)⟩
            obtain ⟨l1, l2, l3, l4⟩ := hL.out.2 j r r1 hr hr1
            obtain ⟨A, C, hv1, _, hnC, hCb, hvw⟩ := S.view (r := r1) (List.mem_append_right _ (List.mem_of_getElem? hr1))
            obtain ⟨n, hn⟩ : ∃ n, n = r.n := ⟨_, rfl⟩
            rw [l2, l3, ← hn] at hv1
            rw [l3, ← hn] at hnC
            have hcell : S.w.cell? ⟨go, j, none⟩ = some (.slice A n C) := by rw [← hv1]; exact (hoc j _ (by rw [List.getElem?_map, hr]; rfl)).1
            have HR := Lib.hid hr
            have HV := Lib.hid hv1
            have HNN := Lib.hid hn
            clear hvw hoc hoc0 l1 l2 l3 l4 hr1 hr hv1 hn hjl
            go_wp2
            clear hcell
            go_loopw [13, 57] (fun _ i wr => ∃ q : Nat, q ≤ n ∧ i = .int .i64 q ∧ ∃ es' : List Row, Hid (LikeE es es') ∧ ∃ S : Piles w (fx ++ es'), wr = S.w) (fun _ i _ => n - (intOf i).toNat)
            case atStart => exact ⟨0, by omega, rfl, es1, hL, S, rfl⟩
            case round =>
              clear S hL
              obtain ⟨q, hq, rfl, es2, hL2, S2, rfl⟩ := hrel
              by_cases hltq : q < n
              · obtain ⟨g, rfl, z, hc, hf, hst⟩ := like_cell hL2.out S2 HR.out HV.out HNN.out.symm hltq
                have HST := Lib.hid hst
                clear hst hL2
                go_wp2
                go_roundw
                case rel => exact ⟨q + 1, by omega, by go_num, HST.out _⟩
                case measure => simp [intOf]; omega
              · obtain rfl : q = n := by omega
                go_wp2
                go_roundw
                case rel => exact ⟨j + 1, by omega, by go_num, es2, hL2, S2, rfl⟩
                case measure => simp [intOf]; omega
          · obtain rfl : j = k := by omega
            go_wp2_with fail
            refine (Piles.call (S := S) (alive04_gives _)).mono ?_
            rintro e' _ ⟨rfl, s6, rfl⟩
            obtain ⟨_, ha⟩ := s6.boxCells (t := 27) (size := 5) (b := B9) (xs := [.int .i64 1, .int .i64 x0, .int .i64 x1, .int .i64 x2, .slice none 0 0]) (by rw [HFX.out]; simp)
            have a0 := ha 0 _ rfl
            have a1 := ha 1 _ rfl
            have a2 := ha 2 _ rfl
            have a3 := ha 3 _ rfl
            have a4 := ha 4 _ rfl
            obtain ⟨_, hx⟩ := s6.boxCells (t := 22) (size := 3) (b := w.heap.size) (xs := [.int .i64 x0, .int .i64 x1, .int .i64 x2]) (by rw [HFX.out]; simp)
            have b0 := hx 0 _ rfl
            have b1 := hx 1 _ rfl
            have b2 := hx 2 _ rfl
            clear ha hx
            have hs1 := rsame_nil 1 x0 x1 x2 1 x0 x1 x2
            rw [sameB_refl] at hs1
            go_wp2_with fail
            refine (Piles.call (S := s6) (hs1 _)).mono ?_
            rintro e' _ ⟨rfl, s7, rfl⟩
            clear a0 a1 a2 a3 a4 b0 b1 b2
            obtain ⟨_, ha⟩ := s7.boxCells (t := 27) (size := 5) (b := B10) (xs := [.int .i64 2, .int .i64 x0, .int .i64 0, .int .i64 0, .slice A' T C']) (by rw [HFX.out]; simp)
            have a0 := ha 0 _ rfl
            have a1 := ha 1 _ rfl
            have a2 := ha 2 _ rfl
            have a3 := ha 3 _ rfl
            have a4 := ha 4 _ rfl
            obtain ⟨_, hx⟩ := s7.boxCells (t := 22) (size := 3) (b := w.heap.size) (xs := [.int .i64 x0, .int .i64 x1, .int .i64 x2]) (by rw [HFX.out]; simp)
            have b0 := hx 0 _ rfl
            obtain ⟨_, A2, C2, hvD, hD⟩ := s7.bytes (v := .slice A' T C') (n := T) (l := F) (by rw [HFX.out]; simp)
            simp only [Value.slice.injEq, true_and] at hvD
            obtain ⟨rfl, rfl⟩ := hvD
            obtain ⟨_, A3, C3, hvA, hAll⟩ := s7.bytes (v := .slice aa T ca) (n := T) (l := F) (by rw [HFX.out]; simp)
            simp only [Value.slice.injEq, true_and] at hvA
            obtain ⟨rfl, rfl⟩ := hvA
            have hs2 := rsame_refl 2 x0 0 0 F A' aa C' ca s7.w hD hAll
            rw [HTE.out] at hs2
            clear ha hx hD hAll hs1
            go_wp2_with fail
            refine (Piles.call (S := s7) hs2).mono ?_
            rintro e' _ ⟨rfl, s8, rfl⟩
            clear a0 a1 a2 a3 a4 b0 hs2
            go_wp2
            go_ret
            exact ⟨rfl, s8.below⟩

theorem commandMakes_walk (x0 x1 x2 : Int) (pa : Option Addr) (ls : List (List Int)) (pcap : Nat) {w : World} (_ : I64 x0) (_ : I64 x1) (_ : I64 x2) (hp : PartsOf w pa ls pcap) :
    Calls Try.prog 3 #[.agg #[.int .i64 x0, .int .i64 x1, .int .i64 x2], .slice pa ls.length pcap] w (Gives (.bool true) w) := by
  by_cases h : 30 < ls.length
  · exact commandMakes_big x0 x1 x2 pa ls.length pcap h hp.parts.len w
  · exact commandMakes_small x0 x1 x2 pa ls pcap w hp (by omega)
end Go.Proofs.Ytfikjndkjjgcjaa
