/- Commands of the reference of package patch. -/
import Derived.Great.BuildSlice
import Derived.Test.YtdedfjkenbaebaaDoorE08a24
import Derived.Test.YtdedfjkenbaebaaDoorE08m1
import Derived.Test.YtdedfjkenbaebaaDoorE08a12
import Derived.Test.YtdedfjkenbaebaaDoorE08a17
namespace Go.Proofs.YtdedfjkenbaebaaDoor
open Go.RowKit Go.Shelf
set_option linter.unusedVariables false
set_option linter.unusedSimpArgs false

/-- A row of the call's own, opened. -/
theorem Grow.form {w0 : World} {h : Option Nat} {bs : List (Nat × Obj)} {els : List Sl7} {e : TypeId} {size : Nat} {v : Value} {n : Nat} {xs : List Value} (S : Grow w0 h bs els e size v n xs) :
    ∃ A C, v = .slice A n C ∧ (0 < n → ∃ g, A = some ⟨g, 0, none⟩ ∧ w0.heap.size ≤ g ∧ n ≤ C ∧ C ≤ maxLen ∧ ∀ (W : World), W.heap[g]? = S.w.heap[g]? → (∀ (j : Nat) (u : Value), xs[j]? = some u → W.cell? ⟨g, j, none⟩ = some u) ∧ ∀ j, W.frozen? ⟨g, j, none⟩ = false) := by
  rcases S.own.2 with ⟨hv, h0⟩ | ⟨g, cap, cur, hv, hg, hb, hn, hc, hs, ht⟩
  · exact ⟨none, 0, by rw [hv, h0], fun hp => by omega⟩
  · refine ⟨some ⟨g, 0, none⟩, cap, hv, fun _ => ⟨g, rfl, hg, hn, hc, fun W hW => ⟨fun j u hu => ?_, fun j => free_of (hW.trans hb) j⟩⟩⟩
    rw [cell_of (hW.trans hb)]
    rw [← ht, List.getElem?_take] at hu
    split at hu
    · simpa using hu
    · cases hu
/-- A cell of the row is written. -/
theorem Grow.put {w0 : World} {bs : List (Nat × Obj)} {els : List Sl7} {e : TypeId} {size g C : Nat} {n : Nat} {xs : List Value} (S : Grow w0 none bs els e size (.slice (some ⟨g, 0, none⟩) n C) n xs) (i : Nat) (hi : i < n * size) (u : Value) :
    ∃ S' : Grow w0 none bs els e size (.slice (some ⟨g, 0, none⟩) n C) n (xs.set i u), S.w.setCell ⟨g, i, none⟩ u = S'.w := by
  obtain ⟨hl, hh⟩ := S.own
  rcases hh with ⟨hv, _⟩ | ⟨g', cap, cur, hv, hg, hb, hn, hc, hs, ht⟩
  · cases hv
  · cases hv
    have hoth : ∀ k, k ≠ g → (S.w.setCell ⟨g, i, none⟩ u).heap[k]? = S.w.heap[k]? := fun k hk => heap_setCell_other _ _ _ _ hk
    have hself := heap_setCell_same S.w g i cur e u hb
    refine ⟨⟨_, ?_, ⟨by rw [List.length_set]; exact hl, .inr ⟨g, C, cur.setIfInBounds i u, rfl, hg, hself, hn, hc, by simpa using hs, ?_⟩⟩, (fun g hg => by cases hg), (fun p hp => ?_), (fun p hp => ?_)⟩, rfl⟩
    · exact S.but.trans ⟨rfl, rfl, rfl, by simp [World.setCell], fun k hk _ => hoth k (by have := S.but.size; omega)⟩
    · rw [Array.toList_setIfInBounds, List.take_set, ht]
    · obtain ⟨h1, h2⟩ := S.blocks p hp
      exact ⟨(hoth _ (fun h => h2 (by simp [Value.ownBlock, h]))).trans h1, h2⟩
    · obtain ⟨h1, h2⟩ := S.el p hp
      exact ⟨bytes_keep h1 (fun hp ad had hlt => hoth _ (fun h => (h2 hp ad had).1 (by simp [Value.ownBlock, h]))), h2⟩
theorem flat5_put4 (cs : List Cmd) (c : Cmd) (l : List Int) (A : Option Addr) (C : Nat) : (flat5 (cs ++ [c])).set (cs.length * 5 + 4) (.slice A l.length C) = flat5 (cs ++ [(⟨c.k, c.t, c.f, c.n, l, A, C⟩ : Cmd)]) := by
  rw [flat5_append, flat5_append, List.set_append_right _ _ (by rw [flat5_length]; omega), flat5_length, show cs.length * 5 + 4 - cs.length * 5 = 4 by omega]
  rfl
theorem find_drop (l x : List Int) (block : Int) (p : Nat) (hp : p ≤ x.length) : findN l (x.drop p) block 0 = findN l x block p := by
  unfold findN
  rw [List.drop_zero, List.length_drop, show ((x.length - p : Nat) : Int) - ((0 : Nat) : Int) = (x.length : Int) - (p : Int) by omega]
/-- What the loop of the reference keeps. -/
structure RcLoop (w : World) (b : Option Addr) (l x : List Int) (capx : Nat) (block : Int) (P : Nat) (v : Value) (wr : World) : Prop where
  hP : P ≤ x.length
  row : ∃ (L0 : List Core8) (B k : Nat), B ≤ P ∧ x.length - P < k ∧ L0 ++ greedy (findN l x block) x k P B = makeC l x block ∧ (L0 = [] ∨ ∃ L1 c, L0 = L1 ++ [c] ∧ c.1 = 1) ∧ (L0 ++ litC x B P).length ≤ P ∧ Nonempty (CmdRow w b x capx (L0 ++ litC x B P) v wr)
theorem cores_snoc {cs : List Cmd} {L0 : List Core8} {c0 : Core8} (h : cores cs = L0 ++ [c0]) : ∃ cs0 c, cs = cs0 ++ [c] ∧ cores cs0 = L0 ∧ c.core = c0 := by
  have hne : cs ≠ [] := by
    rintro rfl
    simp [cores] at h
  refine ⟨cs.dropLast, cs.getLast hne, (List.dropLast_concat_getLast hne).symm, ?_⟩
  rw [← List.dropLast_concat_getLast hne] at h
  unfold cores at h ⊢
  rw [List.map_append] at h
  obtain ⟨h1, h2⟩ := List.append_inj' h rfl
  exact ⟨h1, by simpa using h2⟩

set_option pp.deepTerms true in
set_option pp.maxSteps 1000000 in
set_option maxRecDepth 100000 in
set_option maxHeartbeats 8000000 in
theorem rcommands8_any (a b : Option Addr) (l x : List Int) (cap capx : Nat) (block : Int) (w : World) (hl : BytesIn w a l cap) (hx : BytesIn w b x capx) (ol : OkB l) (ox : OkB x) (hL : l.length ≤ 1000) (hX : x.length ≤ 1000) :
    Calls Tryd.prog 18 #[.slice a l.length cap, .slice b x.length capx, .int .i64 block] w (CmdsMade b x capx (makeC l x block) w) := by
  obtain ⟨E, hE⟩ := elem5
  have HE5 := Lib.hid hE
  obtain ⟨POST, hP⟩ : ∃ P, P = CmdsMade b x capx (makeC l x block) w := ⟨_, rfl⟩
  have HEND : Hid (∀ v' W, Nonempty (CmdRow w b x capx (makeC l x block) v' W) → POST (.returned v') W) := Lib.hid fun v' W h => by
    rw [hP]; exact ⟨v', rfl, h⟩
  have HS : Hid (RcLoop w b l x capx block 0 (.slice none 0 0) w) := Lib.hid ⟨Nat.zero_le _, [], 0, x.length + 1, Nat.le_refl _, by omega, rfl, .inl rfl, by simp [litC], CmdRow.start hx⟩
  have HM := Lib.hid (fun (p : Nat) (hp : p ≤ x.length) (W : World) (hW : Below w.heap.size w W) => rmatch8_any a (slA8 b capx p) l (x.drop p) cap (capx - p) block W (hl.below hW) ((hx.below hW).from8 p hp) ol (fun y hy => ox y (List.mem_of_mem_drop hy)) hL (by rw [List.length_drop]; omega))
  have HXB := Lib.hid hx
  have HOX := Lib.hid ox
  have HLB := Lib.hid hL
  have hxc := hx.len
  have hxcap := hx.capb
  rw [← hP]
  obtain ⟨XX, hXX⟩ : ∃ XX, XX = x.length := ⟨_, rfl⟩
  have HXX := Lib.hid hXX
  have hX1 : XX ≤ 1000 := by omega
  obtain ⟨LL, hLL⟩ : ∃ LL, LL = l.length := ⟨_, rfl⟩
  rw [← hLL] at HM ⊢
  rw [← hXX] at HM hxc ⊢
  clear hP hXX hL hX hLL hl hx ol ox hE
  go_enter Tryd.func18, Tryd.ntmps18
  go_wp2
  go_loopw [7, 8] (fun v pp wr => ∃ P : Nat, pp = .int .i64 (P : Int) ∧ Hid (RcLoop w b l x capx block P v wr)) (fun _ pp _ => XX - (intOf pp).toNat)
  case atStart => exact ⟨0, rfl, HS⟩
  case round =>
    clear HS
    obtain ⟨P, rfl, HI⟩ := hrel
    have hpx : P ≤ XX := by have := HI.out.hP; have := HXX.out; omega
    obtain ⟨L0, B, k, hBP, hk, hgr, hlast, hlen, ⟨R⟩⟩ := HI.out.row
    have hbw := R.below
    by_cases hlt : P < XX
    · have hlx : P < x.length := by rw [← HXX.out]; exact hlt
      obtain ⟨k, rfl⟩ : ∃ j, k = j + 1 := ⟨k - 1, by omega⟩
      have hcut := fun W => cut8_l (a := b) P hpx hxc W
      have hm := HM.out P hpx wr hbw
      rw [find_drop l x block P (by omega), List.length_drop, ← HXX.out] at hm
      cases hf : findN l x block P with
      | some qn =>
        obtain ⟨q, n⟩ := qn
        obtain ⟨hn1, hn2, hn3, hn4⟩ := findN_some hf
        rw [hf] at hm
        have e0 : (mq8 (some (q, n))).1 = q ∧ (mq8 (some (q, n))).2 = n := ⟨rfl, rfl⟩
        rw [e0.1, e0.2] at hm
        rw [greedy_copy hlx hf] at hgr
        have HG : Hid (L0 ++ litC x B P ++ [((1 : Int), (P : Int), (q : Int), (n : Int), [])] ++ greedy (findN l x block) x k (P + n) (P + n) = makeC l x block) := Lib.hid (by rw [← hgr]; simp)
        have HK := Lib.hid (show x.length - (P + n) < k by omega)
        have HPN := Lib.hid (show P + n ≤ x.length by omega)
        have HLEN := Lib.hid hlen
        have hnb : n ≤ 1000 := by have := HXX.out; omega
        have hqb : q ≤ 1000 := by have := HLB.out; omega
        have hPn : P + n ≤ XX := by have := HXX.out; omega
        have HN1 := Lib.hid hn1
        have HRL : Hid (∀ W, Below wr.heap.size wr W → Nonempty (CmdRow w b x capx (L0 ++ litC x B P) u7 W)) := Lib.hid fun W hW => R.later hW
        clear hf e0 hgr hk hn1 hn2 hn3 hn4 hlx HI R hlast hlen hbw
        go_wp2_with fail
        refine hm.mono ?_
        rintro e W2 ⟨rfl, hb2⟩
        obtain ⟨R2⟩ := HRL.out W2 hb2
        obtain ⟨cs, els, S, rfl, hco, hok, hdat⟩ := R2
        have hcl : cs.length ≤ P := by
          have h1 := HLEN.out
          rw [← hco] at h1
          unfold cores at h1
          rw [List.length_map] at h1
          exact h1
        have HOK := Lib.hid (And.intro hco (And.intro hok hdat))
        have hEb : (cs.length + 1) * E.bytes ≤ 140737488355328 := by rw [HE5.out]; omega
        have hE63 : cs.length + 1 ≤ maxLen := by unfold maxLen; omega
        obtain ⟨S5, h5⟩ := S.addEl (none, [], 0) ⟨Nat.le_refl _, by simp, fun h => by simp at h, fun _ => rfl⟩ (fun hp => by simp at hp)
        obtain ⟨B6, S6, hB6, hS6⟩ := S5.more (.cells (Cmd.cells ⟨1, P, q, n, [], none, 0⟩).toArray 46 (0, 0))
        have HS6 : Hid (S.w.alloc (.cells (Cmd.cells ⟨1, P, q, n, [], none, 0⟩).toArray 46 (0, 0)) = S6.w) := Lib.hid (by rw [h5]; exact hS6)
        have HB6 := Lib.hid (show B6 = S.w.heap.size by rw [h5]; exact hB6)
        have hcell : ∀ (j : Nat) (u : Value), (Cmd.cells ⟨1, P, q, n, [], none, 0⟩)[j]? = some u → S6.w.cell? ((⟨B6, 0, none⟩ : Addr).add j) = some u := fun j u hu => by
          rw [Addr.add_mid, Nat.zero_add, cell_of (S6.blocks (B6, .cells (Cmd.cells ⟨1, P, q, n, [], none, 0⟩).toArray 46 (0, 0)) (by simp)).1]
          simpa using hu
        clear hS6 hB6 h5 S5 hco hok hdat hb2 hm HRL
        go_wp2_with (rw [show (#[.int .i64 1, .int .i64 (P : Int), .int .i64 (q : Int), .int .i64 (n : Int), .slice none 0 0] : Array Value) = (Cmd.cells ⟨1, P, q, n, [], none, 0⟩).toArray from rfl, HS6.out, ← HB6.out]; refine Grow.append E S6 (.tmp 27) (.tmp 32) rfl rfl rfl ⟨B6, 0, none⟩ 1 1 _ rfl rfl hcell (one_cells _) hE63 hEb ?_; intro v' S7)
        have HR := Lib.hid (CmdRow.snoc (x := x) (b := b) (capx := capx) S7 HOK.out.1 HOK.out.2.1 HOK.out.2.2 ⟨by unfold I64; omega, lit_i64 (by omega), lit_i64 (by omega), lit_i64 (by omega)⟩ okB_nil (fun hp => by simp at hp))
        have e9 : litC x (P + n) (P + n) = [] := by unfold litC; rw [if_pos rfl]
        have HI2 : Hid (RcLoop w b l x capx block (P + n) v' S7.w) := Lib.hid ⟨HPN.out, L0 ++ litC x B P ++ [((1 : Int), (P : Int), (q : Int), (n : Int), [])], P + n, k, Nat.le_refl _, HK.out, HG.out, .inr ⟨_, _, rfl, rfl⟩, by
          have h1 := HLEN.out
          have h2 := HN1.out
          rw [e9, List.append_nil, List.length_append, List.length_singleton]
          omega, by rw [e9, List.append_nil]; exact HR.out⟩
        clear hcell HR e9
        generalize S7.w = W7 at HI2 ⊢
        go_roundw
        case rel => exact ⟨P + n, by go_num, HI2⟩
        case measure =>
          have := HN1.out
          simp [intOf]; omega
      | none =>
        rw [hf] at hm
        have e0 : (mq8 none).1 = -1 ∧ (mq8 none).2 = 0 := ⟨rfl, rfl⟩
        rw [e0.1, e0.2] at hm
        rw [greedy_lit hlx hf] at hgr
        have HG := Lib.hid hgr
        have HK := Lib.hid (show x.length - (P + 1) < k by omega)
        have HLEN := Lib.hid hlen
        have HLA := Lib.hid hlast
        have HRL : Hid (∀ W, Below wr.heap.size wr W → Nonempty (CmdRow w b x capx (L0 ++ litC x B P) u7 W)) := Lib.hid fun W hW => R.later hW
        obtain ⟨xb, hxb⟩ : ∃ xb, x[P]? = some xb := ⟨_, List.getElem?_eq_getElem hlx⟩
        have HXP := Lib.hid hxb
        clear hf e0 hgr hk HI R hlast hlen hbw hxb
        obtain ⟨bx, oxx, rfl, hcx⟩ := HXB.out.cells (by omega)
        have hcxp := hcx P hlx
        rw [HXP.out, Option.getD_some] at hcxp
        have HCX := Lib.hid hcxp
        have HOB := Lib.hid (show OkB [xb] from fun y hy => by
          obtain rfl := List.mem_singleton.1 hy
          exact HOX.out _ (List.mem_of_getElem? HXP.out))
        clear hcx hcxp
        by_cases hBP2 : B = P
        · have hL00 : litC x B P = [] := by unfold litC; rw [if_pos hBP2]
          rw [hL00, List.append_nil] at HRL HLEN
          have hL01 : litC x B (P + 1) = [((2 : Int), (P : Int), (0 : Int), (0 : Int), [xb])] := by
            unfold litC
            rw [if_neg (by omega), hBP2, show P + 1 - P = 1 by omega]
            obtain ⟨h1, h2⟩ := List.getElem?_eq_some_iff.1 HXP.out
            rw [List.drop_eq_getElem_cons h1, h2]
            rfl
          have HNEW : Hid (∀ v' W, Nonempty (CmdRow w (some ⟨bx, oxx, none⟩) x capx (L0 ++ [((2 : Int), (P : Int), (0 : Int), (0 : Int), [xb])]) v' W) → RcLoop w (some ⟨bx, oxx, none⟩) l x capx block (P + 1) v' W) := Lib.hid fun v' W hn => ⟨by have := HXX.out; omega, L0, B, k, by omega, HK.out, HG.out, HLA.out, by
            rw [hL01, List.length_append, List.length_singleton]
            have := HLEN.out
            omega, by rw [hL01]; exact hn⟩
          clear hL00 hL01
          go_wp2_with fail
          refine hm.mono ?_
          rintro e W2 ⟨rfl, hb2⟩
          obtain ⟨R2⟩ := HRL.out W2 hb2
          obtain ⟨cs, els, S, rfl, hco, hok, hdat⟩ := R2
          have hcl : cs.length ≤ P := by
            have h1 := HLEN.out
            rw [← hco] at h1
            unfold cores at h1
            rw [List.length_map] at h1
            exact h1
          have HOK := Lib.hid (And.intro hco (And.intro hok hdat))
          have hEb : (cs.length + 1) * E.bytes ≤ 140737488355328 := by rw [HE5.out]; omega
          have hE63 : cs.length + 1 ≤ maxLen := by unfold maxLen; omega
          obtain ⟨S3, h3⟩ := S.push (.cells #[.int .u8 xb] 5 (0, 0))
          have hbb : BytesIn S3.w (some ⟨S.w.heap.size, 0, none⟩) [xb] 1 := ⟨Nat.le_refl _, by omega, fun _ => ⟨S.w.heap.size, 0, rfl, fun i hi => by
            obtain rfl : i = 0 := by simpa using hi
            rw [cell_of (S3.blocks (S.w.heap.size, .cells #[.int .u8 xb] 5 (0, 0)) (by simp)).1]
            rfl⟩, fun h => by cases h⟩
          obtain ⟨S4, h4⟩ := S3.addEl (some ⟨S.w.heap.size, 0, none⟩, [xb], 1) hbb (fun _ ad had => ⟨fun hg => by
            have h5 := S.ownLt hg
            cases had
            simp only at h5
            omega, fun h => by cases h⟩)
          obtain ⟨B6, S6, hB6, hS6⟩ := S4.more (.cells (Cmd.cells ⟨2, P, 0, 0, [xb], some ⟨S.w.heap.size, 0, none⟩, 1⟩).toArray 46 (0, 0))
          have HS6 : Hid ((S.w.alloc (.cells #[.int .u8 xb] 5 (0, 0))).alloc (.cells (Cmd.cells ⟨2, P, 0, 0, [xb], some ⟨S.w.heap.size, 0, none⟩, 1⟩).toArray 46 (0, 0)) = S6.w) := Lib.hid (by rw [h3, h4]; exact hS6)
          have HB6 := Lib.hid (show B6 = S.w.heap.size + 1 by rw [hB6, ← h4, ← h3]; simp)
          have hcell : ∀ (j : Nat) (u : Value), (Cmd.cells ⟨2, P, 0, 0, [xb], some ⟨S.w.heap.size, 0, none⟩, 1⟩)[j]? = some u → S6.w.cell? ((⟨B6, 0, none⟩ : Addr).add j) = some u := fun j u hu => by
            rw [Addr.add_mid, Nat.zero_add, cell_of (S6.blocks (B6, .cells (Cmd.cells ⟨2, P, 0, 0, [xb], some ⟨S.w.heap.size, 0, none⟩, 1⟩).toArray 46 (0, 0)) (by simp)).1]
            simpa using hu
          have hcb : S.w.cell? ⟨bx, oxx + P, none⟩ = some (.int .u8 xb) := (S.but.below.cell (World.block_lt_of_cell? _ _ HCX.out)).trans HCX.out
          have HSB := Lib.hid S.but.below.size
          obtain ⟨A, C, rfl, hform⟩ := S.form
          have HFM := Lib.hid hform
          clear hS6 hB6 h3 h4 hbb hco hdat hb2 hm HRL hform
          have hcs : cs = [] ∨ ∃ cs0 c, cs = cs0 ++ [c] ∧ c.k = 1 := by
            have h1 := HOK.out.1
            rcases HLA.out with h0 | ⟨L1, c1, h0, hc1⟩
            · rw [h0] at h1
              exact .inl (List.map_eq_nil_iff.1 h1)
            · rw [h0] at h1
              obtain ⟨cs0, c, e1, -, e3⟩ := cores_snoc h1
              exact .inr ⟨cs0, c, e1, by rw [← hc1, ← e3]⟩
          rcases hcs with hcs | ⟨cs0, c, hcs, hck⟩
          · have hn0 : cs.length = 0 := by rw [hcs]; rfl
            have HN0 := Lib.hid hn0
            have d41 : decide ((1 : Int) ≤ (cs.length : Int)) = false := by rw [hn0]; decide
            clear hcs hn0
            go_wp2_with (rw [show (#[.int .i64 2, .int .i64 (P : Int), .int .i64 0, .int .i64 0, .slice (some ⟨S.w.heap.size, 0, none⟩) 1 1] : Array Value) = (Cmd.cells ⟨2, P, 0, 0, [xb], some ⟨S.w.heap.size, 0, none⟩, 1⟩).toArray from rfl, HS6.out, ← HB6.out]; refine Grow.append E S6 (.tmp 67) (.tmp 75) ?_ ?_ ?_ ⟨B6, 0, none⟩ 1 1 (Cmd.cells ⟨2, P, 0, 0, [xb], some ⟨S.w.heap.size, 0, none⟩, 1⟩) ?_ ?_ hcell (one_cells _) hE63 hEb ?_; rfl; rfl; rfl; rfl; rfl; intro v' S7)
            have HR := Lib.hid (CmdRow.snoc (x := x) (b := some ⟨bx, oxx, none⟩) (capx := capx) S7 HOK.out.1 HOK.out.2.1 HOK.out.2.2 ⟨by unfold I64; omega, lit_i64 (by omega), by unfold I64; omega, by unfold I64; omega⟩ HOB.out (fun _ ad had => by cases had; exact HSB.out))
            have HI2 := Lib.hid (HNEW.out _ _ HR.out)
            clear hcell HR
            generalize S7.w = W7 at HI2 ⊢
            go_roundw
            case rel => exact ⟨P + 1, by go_num, HI2⟩
            case measure => simp [intOf]; omega
          · have hcn : cs.length = cs0.length + 1 := by rw [hcs]; simp
            have d41 : decide ((1 : Int) ≤ (cs.length : Int)) = true := by simp; omega
            obtain ⟨gr, rfl, hgr, hnC, hCm, hrow⟩ := HFM.out (by omega)
            have hcin : (flat5 cs)[cs0.length * 5]? = some (.int .i64 c.k) := by
              rw [hcs]
              exact flat5_put _ cs0.length 0 c _ (by simp) rfl
            have ck := (hrow S.w rfl).1 _ _ hcin
            have hck2 : (c.k == 2) = false := by rw [hck]; rfl
            have hcm9 : C ≤ 9223372036854775807 := by unfold maxLen at hCm; omega
            have e45 : (cs.length : Int) - 1 = (cs0.length : Int) := by omega
            have hl0 : cs0.length < cs.length := by omega
            have HCN := Lib.hid hcn
            clear hcs hck hcin hrow hCm hcn
            go_wp2_with (rw [show (#[.int .i64 2, .int .i64 (P : Int), .int .i64 0, .int .i64 0, .slice (some ⟨S.w.heap.size, 0, none⟩) 1 1] : Array Value) = (Cmd.cells ⟨2, P, 0, 0, [xb], some ⟨S.w.heap.size, 0, none⟩, 1⟩).toArray from rfl, HS6.out, ← HB6.out]; refine Grow.append E S6 (.tmp 67) (.tmp 75) ?_ ?_ ?_ ⟨B6, 0, none⟩ 1 1 (Cmd.cells ⟨2, P, 0, 0, [xb], some ⟨S.w.heap.size, 0, none⟩, 1⟩) ?_ ?_ hcell (one_cells _) hE63 hEb ?_; rfl; rfl; rfl; rfl; rfl; intro v' S7)
            have HR := Lib.hid (CmdRow.snoc (x := x) (b := some ⟨bx, oxx, none⟩) (capx := capx) S7 HOK.out.1 HOK.out.2.1 HOK.out.2.2 ⟨by unfold I64; omega, lit_i64 (by omega), by unfold I64; omega, by unfold I64; omega⟩ HOB.out (fun _ ad had => by cases had; exact HSB.out))
            have HI2 := Lib.hid (HNEW.out _ _ HR.out)
            clear hcell HR
            generalize S7.w = W7 at HI2 ⊢
            go_roundw
            case rel => exact ⟨P + 1, by go_num, HI2⟩
            case measure => simp [intOf]; omega
        · have hBlt : B < P := by omega
          obtain ⟨Y, hY⟩ : ∃ Y, Y = (x.drop B).take (P - B) := ⟨_, rfl⟩
          have hYl : Y.length = P - B := by rw [hY]; simp; omega
          have hY0 : 0 < Y.length := by rw [hYl]; omega
          have hYm : Y.length ≤ 1000 := by rw [hYl]; omega
          have hL00 : litC x B P = [((2 : Int), (B : Int), (0 : Int), (0 : Int), Y)] := by unfold litC; rw [if_neg hBP2, hY]
          rw [hL00] at HRL HLEN
          have hL01 : litC x B (P + 1) = [((2 : Int), (B : Int), (0 : Int), (0 : Int), Y ++ [xb])] := by
            unfold litC
            rw [if_neg (by omega), hY]
            obtain ⟨h1, h2⟩ := List.getElem?_eq_some_iff.1 HXP.out
            rw [show P + 1 - B = (P - B) + 1 by omega, List.take_add_one, List.getElem?_drop, show B + (P - B) = P by omega, HXP.out]
            rfl
          have HNEW : Hid (∀ v' W, Nonempty (CmdRow w (some ⟨bx, oxx, none⟩) x capx (L0 ++ [((2 : Int), (B : Int), (0 : Int), (0 : Int), Y ++ [xb])]) v' W) → RcLoop w (some ⟨bx, oxx, none⟩) l x capx block (P + 1) v' W) := Lib.hid fun v' W hn => ⟨by have := HXX.out; omega, L0, B, k, by omega, HK.out, HG.out, HLA.out, by
            rw [hL01, List.length_append, List.length_singleton]
            have := HLEN.out
            rw [List.length_append, List.length_singleton] at this
            omega, by rw [hL01]; exact hn⟩
          have HYB := Lib.hid (show OkB (Y ++ [xb]) from fun y hy => by
            rcases List.mem_append.1 hy with hy | hy
            · rw [hY] at hy
              exact HOX.out y (List.mem_of_mem_drop (List.mem_of_mem_take hy))
            · exact HOB.out y hy)
          clear hL00 hL01 hY
          go_wp2_with fail
          refine hm.mono ?_
          rintro e W2 ⟨rfl, hb2⟩
          obtain ⟨R2⟩ := HRL.out W2 hb2
          obtain ⟨cs, els, S, rfl, hco, hok, hdat⟩ := R2
          obtain ⟨cs0, c, hcs, hc0, hcc⟩ := cores_snoc hco
          have hcl : cs.length ≤ P := by
            have h1 := HLEN.out
            rw [← hco] at h1
            unfold cores at h1
            rw [List.length_map] at h1
            exact h1
          obtain ⟨A, C, rfl, hform⟩ := S.form
          have hcn : cs.length = cs0.length + 1 := by rw [hcs]; simp
          obtain ⟨gr, rfl, hgr, hnC, hCm, hrow⟩ := hform (by omega)
          have hk2 : c.k = 2 := congrArg (fun q : Core8 => q.1) hcc
          have hcY : c.l = Y := congrArg (fun q : Core8 => q.2.2.2.2) hcc
          have hcin : (flat5 cs)[cs0.length * 5]? = some (.int .i64 c.k) := by
            rw [hcs]
            exact flat5_put _ cs0.length 0 c _ (by simp) rfl
          have hcin4 : (flat5 cs)[cs0.length * 5 + 4]? = some (.slice c.a c.l.length c.cap) := by
            rw [hcs]
            exact flat5_put _ cs0.length 4 c _ (by simp) rfl
          rw [hcY] at hcin4
          have ck := (hrow S.w rfl).1 _ _ hcin
          have hck2 : (c.k == 2) = true := by rw [hk2]; rfl
          have hcm9 : C ≤ 9223372036854775807 := by unfold maxLen at hCm; omega
          have e45 : (cs.length : Int) - 1 = (cs0.length : Int) := by omega
          have hl0 : cs0.length < cs.length := by omega
          have d41 : decide ((1 : Int) ≤ (cs.length : Int)) = true := by simp; omega
          have hgrl : gr < S.w.heap.size := S.ownLt (by simp [Value.ownBlock])
          have HROW := Lib.hid (fun (W : World) (hW : Below S.w.heap.size S.w W) => (show W.cell? ⟨gr, cs0.length * 5 + 4, none⟩ = some (.slice c.a Y.length c.cap) ∧ W.frozen? ⟨gr, cs0.length * 5 + 4, none⟩ = false from ⟨(hrow W (hW.block gr hgrl)).1 _ _ hcin4, (hrow W (hW.block gr hgrl)).2 _⟩))
          have HOK := Lib.hid (And.intro hco (And.intro hok hdat))
          have hcel := hok c (by rw [hcs]; simp)
          have HYIN := Lib.hid (show BytesIn S.w c.a Y c.cap from by
            have := (S.el _ hcel.2.2.1).1
            rw [hcY] at this
            exact this)
          have hcxb : ∀ W, Below S.w.heap.size S.w W → W.cell? ⟨bx, oxx + P, none⟩ = some (.int .u8 xb) := fun W hW => by
            have hbb := S.but.below.trans (hW.mono S.but.size)
            exact (hbb.cell (World.block_lt_of_cell? _ _ HCX.out)).trans HCX.out
          have HCXB := Lib.hid hcxb
          have HCSS := Lib.hid (And.intro hcs (And.intro hc0 hcc))
          have HSB := Lib.hid S.but.below.size
          have HCN := Lib.hid hcn
          have HY0 := Lib.hid (And.intro hY0 hYm)
          clear hcs hc0 hcc hcin hcin4 hrow hform hCm hco hok hdat hb2 hm HRL hk2 hcY hcel hcxb hYl hcn hY0 hYm
          go_wp2_with fail
          clear ck
          refine wp_region_looseT 17
            [IsV (.slice (some ⟨gr, 0, none⟩) cs.length C), IsV (.int .i64 (cs0.length : Int)), IsNoneB S.w.heap.size, IsV (.slice (some ⟨gr, 0, none⟩) cs.length C), IsV (.int .i64 (cs0.length : Int)), IsV (.pointer (some ⟨gr, cs0.length * 5, none⟩)), IsV (.pointer (some ⟨gr, cs0.length * 5 + 4, none⟩)), IsV (.slice c.a Y.length c.cap), IsRowB S.w.heap.size Y.length (Y.map (Value.int .u8)),
             IsV (.slice (some ⟨bx, oxx, none⟩) XX capx), IsV (.int .i64 (P : Int)), IsV (.pointer (some ⟨bx, oxx + P, none⟩)), IsV (.int .u8 xb), IsBoxB S.w.heap.size xb, IsRowB S.w.heap.size (Y.length + 1) (Y.map (Value.int .u8) ++ [.int .u8 xb]), IsV (.pointer (some ⟨gr, cs0.length * 5, none⟩)), IsV (.pointer (some ⟨gr, cs0.length * 5 + 4, none⟩))]
            [⟨50, [], [7]⟩, ⟨51, [], [11]⟩, ⟨52, [], []⟩, ⟨53, [], [7]⟩, ⟨54, [], [11]⟩, ⟨55, [(3, 53), (4, 54)], []⟩, ⟨56, [(5, 55)], []⟩, ⟨57, [(6, 56)], []⟩, ⟨58, [(2, 52), (7, 57)], []⟩, ⟨59, [], [1]⟩, ⟨60, [], [8]⟩, ⟨61, [(9, 59), (10, 60)], []⟩, ⟨62, [(11, 61)], []⟩, ⟨63, [(12, 62)], []⟩, ⟨64, [(8, 58), (13, 63)], []⟩, ⟨65, [(0, 50), (1, 51)], []⟩, ⟨66, [(15, 65)], []⟩]
            (fun W => Below S.w.heap.size S.w W) (ExtB8 S.w.heap.size Y.length (Y.map (Value.int .u8)) [.int .u8 xb]) (by kernel_rfl) (by kernel_rfl) (by kernel_rfl) rfl rfl (Below.refl _ S.w).drew ?_
            ⟨?_, ?_, ?_, ?_, ?_, ?_, ?_, ?_, ?_, ?_, ?_, ?_, ?_, ?_, ?_, ?_, ?_, trivial⟩ ?_
          · repeat (first | (intro _ h; cases h; done) | refine List.forall_mem_cons.2 ⟨stable_V _ _, ?_⟩ | refine List.forall_mem_cons.2 ⟨stable_noneB _ _ _ _, ?_⟩ | refine List.forall_mem_cons.2 ⟨stable_boxB _ _ _ _, ?_⟩ | refine List.forall_mem_cons.2 ⟨stable_rowB _ _ _ _ _ _ (.inr (.inl ⟨rfl, rfl⟩)), ?_⟩ | refine List.forall_mem_cons.2 ⟨stable_rowB _ _ _ _ _ _ (.inr (.inr (.inr ⟨rfl, rfl⟩))), ?_⟩)
          · intro A W hC hd hx
            have hk : ∀ v, A.eval (.const v) = v := fun _ => rfl
            have hy0 : A.eval (.tmp 7) = .slice (some ⟨gr, 0, none⟩) cs.length C := hx 7 (by simp)
            clear hd
            generalize A.eval = ρ at hk hy0 ⊢
            simp [go_sem, looseUpon, factOf, hk, hy0]
            exact ⟨hC, ExtB8.refl _ _ _ _ _⟩
          · intro A W hC hd hx
            have hk : ∀ v, A.eval (.const v) = v := fun _ => rfl
            have hy0 : A.eval (.tmp 11) = .int .i64 (cs0.length : Int) := hx 11 (by simp)
            clear hd
            generalize A.eval = ρ at hk hy0 ⊢
            simp [go_sem, looseUpon, factOf, hk, hy0]
            exact ⟨hC, ExtB8.refl _ _ _ _ _⟩
          · intro A W hC hd hx
            have hk : ∀ v, A.eval (.const v) = v := fun _ => rfl
            clear hd
            generalize A.eval = ρ at hk ⊢
            simp [go_sem, looseUpon, factOf, hk]
            exact ⟨⟨_, rfl, hC.size, rfl, .inr ⟨_, 0, _, rfl, hC.size, World.alloc_heap_new _ _, Nat.le_refl _, by unfold maxLen; omega, rfl, rfl⟩⟩, hC.alloc hC.size _, extB8_below ((Below.refl _ W).alloc (Nat.le_refl _) _)⟩
          · intro A W hC hd hx
            have hk : ∀ v, A.eval (.const v) = v := fun _ => rfl
            have hy0 : A.eval (.tmp 7) = .slice (some ⟨gr, 0, none⟩) cs.length C := hx 7 (by simp)
            clear hd
            generalize A.eval = ρ at hk hy0 ⊢
            simp [go_sem, looseUpon, factOf, hk, hy0]
            exact ⟨hC, ExtB8.refl _ _ _ _ _⟩
          · intro A W hC hd hx
            have hk : ∀ v, A.eval (.const v) = v := fun _ => rfl
            have hy0 : A.eval (.tmp 11) = .int .i64 (cs0.length : Int) := hx 11 (by simp)
            clear hd
            generalize A.eval = ρ at hk hy0 ⊢
            simp [go_sem, looseUpon, factOf, hk, hy0]
            exact ⟨hC, ExtB8.refl _ _ _ _ _⟩
          · intro A W hC hd hx
            have hk : ∀ v, A.eval (.const v) = v := fun _ => rfl
            have c0 := hl0
            simp [factOf] at hd
            generalize A.eval = ρ at hd hk ⊢
            simp [go_sem, looseUpon, factOf, hd, hk, c0]
            exact ⟨hC, ExtB8.refl _ _ _ _ _⟩
          · intro A W hC hd hx
            have hk : ∀ v, A.eval (.const v) = v := fun _ => rfl
            simp [factOf] at hd
            generalize A.eval = ρ at hd hk ⊢
            simp [go_sem, looseUpon, factOf, hd, hk]
            exact ⟨hC, ExtB8.refl _ _ _ _ _⟩
          · intro A W hC hd hx
            have hk : ∀ v, A.eval (.const v) = v := fun _ => rfl
            have c0 := (HROW.out W hC).1
            simp [factOf] at hd
            generalize A.eval = ρ at hd hk ⊢
            simp [go_sem, looseUpon, factOf, hd, hk, c0]
            exact ⟨hC, ExtB8.refl _ _ _ _ _⟩
          · intro A W hC hd hx
            refine ⟨fun g hg => (by cases hg), ?_⟩
            simp [factOf] at hd
            obtain ⟨⟨p, hp, -, -⟩, hd2⟩ := hd
            obtain ⟨v', W', hrun, hrow, hb⟩ := run_append_fresh (m := Y.length) rfl (HYIN.out.below hC) HY0.out.1 (by have := HY0.out.2; omega) (base := S.w.heap.size) hC.size (some ⟨p, 0, none⟩) 22
            obtain ⟨A2, C2, rfl, hown⟩ := hrow
            generalize A.eval = ρ at hp hd2 ⊢
            simp [execOp, resolve, invoke, builtin, hp, hd2, hrun, looseUpon, factOf]
            exact ⟨hown, hC.trans (hb.mono hC.size), extB8_below hb⟩
          · intro A W hC hd hx
            have hk : ∀ v, A.eval (.const v) = v := fun _ => rfl
            have hy0 : A.eval (.tmp 1) = .slice (some ⟨bx, oxx, none⟩) XX capx := hx 1 (by simp)
            clear hd
            generalize A.eval = ρ at hk hy0 ⊢
            simp [go_sem, looseUpon, factOf, hk, hy0]
            exact ⟨hC, ExtB8.refl _ _ _ _ _⟩
          · intro A W hC hd hx
            have hk : ∀ v, A.eval (.const v) = v := fun _ => rfl
            have hy0 : A.eval (.tmp 8) = .int .i64 (P : Int) := hx 8 (by simp)
            clear hd
            generalize A.eval = ρ at hk hy0 ⊢
            simp [go_sem, looseUpon, factOf, hk, hy0]
            exact ⟨hC, ExtB8.refl _ _ _ _ _⟩
          · intro A W hC hd hx
            have hk : ∀ v, A.eval (.const v) = v := fun _ => rfl
            have c0 := hlt
            simp [factOf] at hd
            generalize A.eval = ρ at hd hk ⊢
            simp [go_sem, looseUpon, factOf, hd, hk, c0]
            exact ⟨hC, ExtB8.refl _ _ _ _ _⟩
          · intro A W hC hd hx
            have hk : ∀ v, A.eval (.const v) = v := fun _ => rfl
            have c0 := HCXB.out W hC
            simp [factOf] at hd
            generalize A.eval = ρ at hd hk ⊢
            simp [go_sem, looseUpon, factOf, hd, hk, c0]
            exact ⟨hC, ExtB8.refl _ _ _ _ _⟩
          · intro A W hC hd hx
            have hk : ∀ v, A.eval (.const v) = v := fun _ => rfl
            simp [factOf] at hd
            generalize A.eval = ρ at hd hk ⊢
            simp [go_sem, looseUpon, factOf, hd, hk]
            exact ⟨⟨_, rfl, rfl, .inr ⟨_, 1, _, rfl, hC.size, World.alloc_heap_new _ _, Nat.le_refl _, by unfold maxLen; omega, rfl, rfl⟩⟩, hC.alloc hC.size _, extB8_below ((Below.refl _ W).alloc (Nat.le_refl _) _)⟩
          · intro A W hC hd hx
            refine ⟨fun g hg => (by cases hg), ?_⟩
            simp [factOf] at hd
            obtain ⟨hd1, B5, hd2, hd3⟩ := hd
            obtain ⟨v', W', hrun, hrow, hb, hext⟩ := append_ext8 (W0 := S.w) hC hd1 ⟨B5, 0, none⟩ 1 rfl (hd3.cells (g := B5) (by rw [hd2]; rfl)) (by simp [Value.oneCell']) (by have := HY0.out.2; omega) 22
            generalize A.eval = ρ at hd1 hd2 hrun ⊢
            simp [execOp, resolve, invoke, builtin, hd2, hrun, looseUpon, factOf]
            exact ⟨hrow, hb, hext⟩
          · intro A W hC hd hx
            have hk : ∀ v, A.eval (.const v) = v := fun _ => rfl
            have c0 := hl0
            simp [factOf] at hd
            generalize A.eval = ρ at hd hk ⊢
            simp [go_sem, looseUpon, factOf, hd, hk, c0]
            exact ⟨hC, ExtB8.refl _ _ _ _ _⟩
          · intro A W hC hd hx
            have hk : ∀ v, A.eval (.const v) = v := fun _ => rfl
            simp [factOf] at hd
            generalize A.eval = ρ at hd hk ⊢
            simp [go_sem, looseUpon, factOf, hd, hk]
            exact ⟨hC, ExtB8.refl _ _ _ _ _⟩
          intro W hC
          simp only [ends]
          rintro _ rfl _ rfl _ ⟨p52, rfl, -, -⟩ _ rfl _ rfl _ rfl _ rfl _ rfl v58 - _ rfl _ rfl _ rfl _ rfl _ ⟨p63, rfl, -⟩ v64 hv64 _ rfl _ rfl
          simp only [putAll, List.zip_cons_cons, List.zip_nil_left, List.foldl_cons, List.foldl_nil, Act.put, List.setIfInBounds_toArray, List.set_cons_succ, List.set_cons_zero]
          obtain ⟨A9, C9, rfl, hB9, hA9⟩ := own_sl (l := Y ++ [xb]) (base := S.w.heap.size) (w := W) (u := v64) (by
            have h1 : (Y ++ [xb]).length = Y.length + 1 := by simp
            have h2 : (Y ++ [xb]).map (Value.int .u8) = Y.map (Value.int .u8) ++ [.int .u8 xb] := by simp
            rw [h1, h2]
            exact hv64)
          have hroww := HROW.out W hC
          obtain ⟨f4, f5⟩ := hroww
          obtain ⟨S1, h1⟩ := S.later hC
          subst h1
          obtain ⟨S2, h2⟩ := S1.addEl (A9, Y ++ [xb], C9) hB9 (fun _ ad had => ⟨fun hg => by
            have h3 := (hA9 ad had).1
            have h4 : gr = ad.block := by simpa [Value.ownBlock] using hg
            omega, fun h => by cases h⟩)
          obtain ⟨S3, h3⟩ := S2.put (cs0.length * 5 + 4) (by have := HCN.out; omega) (.slice A9 (Y ++ [xb]).length C9)
          have HS3 := Lib.hid (show S1.w.setCell ⟨gr, cs0.length * 5 + 4, none⟩ (.slice A9 (Y ++ [xb]).length C9) = S3.w by rw [h2]; exact h3)
          obtain ⟨S4, h4⟩ := S3.conv (n' := (cs0 ++ [(⟨c.k, c.t, c.f, c.n, Y ++ [xb], A9, C9⟩ : Cmd)]).length) (xs' := flat5 (cs0 ++ [(⟨c.k, c.t, c.f, c.n, Y ++ [xb], A9, C9⟩ : Cmd)])) (by have := HCN.out; simp; omega) (by rw [HCSS.out.1]; exact flat5_put4 cs0 c (Y ++ [xb]) A9 C9)
          have HNX := Lib.hid (HNEW.out _ _ ⟨⟨cs0 ++ [(⟨c.k, c.t, c.f, c.n, Y ++ [xb], A9, C9⟩ : Cmd)], (A9, Y ++ [xb], C9) :: els, S4, rfl, by
            unfold cores
            rw [List.map_append]
            have e1 : cs0.map Cmd.core = L0 := HCSS.out.2.1
            rw [e1]
            have e2 := HCSS.out.2.2
            have k1 : c.k = 2 := congrArg (fun q : Core8 => q.1) e2
            have k2 : c.t = B := congrArg (fun q : Core8 => q.2.1) e2
            have k3 : c.f = 0 := congrArg (fun q : Core8 => q.2.2.1) e2
            have k4 : c.n = 0 := congrArg (fun q : Core8 => q.2.2.2.1) e2
            simp [Cmd.core, k1, k2, k3, k4], (fun d hd => by
            have hok := HOK.out.2.1
            rcases List.mem_append.1 hd with hd | hd
            · obtain ⟨q1, q2, q3, q4⟩ := hok d (by rw [HCSS.out.1]; exact List.mem_append_left _ hd)
              exact ⟨q1, q2, List.mem_cons_of_mem _ q3, q4⟩
            · obtain rfl := List.mem_singleton.1 hd
              obtain ⟨q1, q2, q3, q4⟩ := hok c (by rw [HCSS.out.1]; simp)
              exact ⟨q1, HYB.out, List.mem_cons_self, fun _ ad had => Nat.le_trans HSB.out (hA9 ad had).1⟩), List.mem_cons_of_mem _ HOK.out.2.2⟩⟩)
          have HS4 := Lib.hid (HS3.out.trans h4)
          have hl9 : (Y ++ [xb]).length = Y.length + 1 := by simp
          have HL9 := Lib.hid hl9
          clear h2 h3 h4 hB9 hA9 hv64 hl9 HS3
          generalize (Y ++ [xb]).length = N9 at *
          go_wp2
          rw [HS4.out]
          go_roundw
          case rel => exact ⟨P + 1, by go_num, HNX⟩
          case measure => simp [intOf]; omega
    · obtain rfl : P = XX := by omega
      have hge : x.length ≤ P := by rw [← HXX.out]; omega
      rw [greedy_end hge] at hgr
      have HQ : Hid (POST (.returned u7) wr) := Lib.hid (HEND.out _ _ (by
        rw [← hgr, ← HXX.out]
        exact ⟨R⟩))
      clear hgr hlast hlen R HI hbw
      go_wp2
      exact HQ.out
end Go.Proofs.YtdedfjkenbaebaaDoor
