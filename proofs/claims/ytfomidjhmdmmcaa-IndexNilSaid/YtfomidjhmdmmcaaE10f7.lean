import Derived.LoopTactic
import Derived.Test.YtfomidjhmdmmcaaE10f4
import Derived.Test.YtfomidjhmdmmcaaE10f5
import Derived.Test.YtfomidjhmdmmcaaE10f6
import Derived.Deep.RegionLaw
import Derived.Test.YtfomidjhmdmmcaaE10f1
import Derived.RangeFuncBox
import Derived.RangeFuncLeaves
import Derived.RangeFuncNested
import Derived.Shelf.Abstract
import Derived.WalkKit
import Derived.OwnWalk
import Derived.OwnWalkIn
import Derived.TacticsInMore
import Derived.LoopNIn
import Derived.LoopIn
import Derived.Maps.AppendAt
import Derived.Lib.Hide
import Derived.Test.YtfomidjhmdmmcaaProg
import Derived.Deep.DeepMust
import Derived.Stop.RegionWithIn
/- Rows of extents in memory of the call's own. -/
namespace Go.Proofs.Ytfomidjhmdmmcaa
open Go.RowKit Go.Shelf Go.Proofs.Ytfomidjhmdmmcaa.Plain01
set_option linter.unusedVariables false
set_option linter.unusedSimpArgs false

def cells10 (x : Int × Int) : List Value := [.int .i64 x.1, .int .i64 x.2]
def flat10 (l : List (Int × Int)) : List Value := l.flatMap cells10
theorem flat10_length (l : List (Int × Int)) : (flat10 l).length = l.length * 2 := by
  induction l with
  | nil => rfl
  | cons a l ih =>
    unfold flat10 at *
    rw [List.flatMap_cons, List.length_append, ih]
    simp [cells10]
    omega
theorem flat10_append (l m : List (Int × Int)) : flat10 (l ++ m) = flat10 l ++ flat10 m := by unfold flat10; rw [List.flatMap_append]
theorem flat10_get : ∀ (l : List (Int × Int)) (i : Nat) (x : Int × Int), l[i]? = some x → (flat10 l)[i * 2]? = some (.int .i64 x.1) ∧ (flat10 l)[i * 2 + 1]? = some (.int .i64 x.2) := by
  intro l
  induction l with
  | nil => intro i x h; simp at h
  | cons a l ih =>
    intro i x h
    have e : flat10 (a :: l) = .int .i64 a.1 :: .int .i64 a.2 :: flat10 l := rfl
    cases i with
    | zero =>
      simp only [List.getElem?_cons_zero, Option.some.injEq] at h
      subst h
      rw [e]
      exact ⟨rfl, rfl⟩
    | succ i =>
      simp only [List.getElem?_cons_succ] at h
      obtain ⟨h1, h2⟩ := ih i x h
      rw [e, show (i + 1) * 2 = i * 2 + 1 + 1 by omega]
      simp only [List.getElem?_cons_succ]
      exact ⟨h1, h2⟩
theorem flat10_one (l : List (Int × Int)) : ∀ u ∈ flat10 l, u.oneCell' = true := fun u hu => by
  unfold flat10 at hu
  obtain ⟨c, _, hc⟩ := List.mem_flatMap.1 hu
  simp only [cells10, List.mem_cons, List.not_mem_nil, or_false] at hc
  rcases hc with rfl | rfl <;> rfl
theorem elem10 : ∃ E : ElemS Try.prog 22 30 2, E.bytes = 16 := by
  have h : (Try.prog.info? 30).map (fun i => (i.zero, i.size, i.bytes)) = some (some (.agg #[.int .i64 0, .int .i64 0]), 2, 16) := by kernel_rfl
  obtain ⟨i, hi, he⟩ := Option.map_eq_some_iff.1 h
  simp only [Prod.mk.injEq] at he
  exact ⟨⟨i, .agg #[.int .i64 0, .int .i64 0], 16, Try.underlying22, hi, he.1, he.2.1, he.2.2, rfl, by omega⟩, rfl⟩
/-- A row that is the call's own is a slice of extents. -/
theorem row10 {W : World} {base n : Nat} {v : Value} {l : List (Int × Int)} (h : W.ownsRow base 30 2 v n (flat10 l)) (hn : n = l.length) : ∃ (a : Option Addr) (cap : Nat), v = .slice a l.length cap ∧ ExtSlice W a l.length (at10 l) ∧ l.length ≤ cap ∧ cap ≤ 9223372036854775807 ∧ (∀ ad, a = some ad → base ≤ ad.block ∧ ad.block < W.heap.size) ∧ (a = none → cap = 0) := by
  subst hn
  rcases h.2 with ⟨rfl, h0⟩ | ⟨g, cap, cur, rfl, hb, hg, hc1, hc2, hsz, htk⟩
  · have : l = [] := List.eq_nil_of_length_eq_zero h0
    subst this
    exact ⟨none, 0, rfl, fun h => by simp at h, by simp, by omega, fun ad h => (by cases h), fun _ => rfl⟩
  · refine ⟨_, cap, rfl, fun _ => ⟨g, 0, rfl, fun i hi => ?_⟩, hc1, by unfold maxLen at hc2; omega, fun ad h => (by cases h; exact ⟨hb, (Array.getElem?_eq_some_iff.1 hg).1⟩), fun h => (by cases h)⟩
    obtain ⟨h1, h2⟩ := flat10_get l i _ (at10_get hi)
    rw [← htk, List.getElem?_take] at h1 h2
    rw [Nat.zero_add, cell_of hg, cell_of hg]
    constructor
    · split at h1
      · simpa using h1
      · cases h1
    · split at h2
      · simpa using h2
      · cases h2
/-- A new literal of one extent. -/
def IsOne10 (x : Int × Int) : Value → World → Prop := fun v w => ∃ B, v = .slice (some ⟨B, 0, none⟩) 1 1 ∧ w.heap[B]? = some (.cells #[.int .i64 x.1, .int .i64 x.2] 30 (0, 0))
theorem stable_One10 (x : Int × Int) : Stable (fun W W' => Below W.heap.size W W') (IsOne10 x) := fun v w w' ⟨B, h1, h2⟩ hE => ⟨B, h1, heap_below h2 hE⟩
theorem take10 {S : List (Int × Int)} {k : Nat} (hk : k < S.length) : S.take (k + 1) = S.take k ++ [at10 S k] := by
  rw [List.take_add_one, List.getElem?_eq_getElem hk, at10_elem hk]
  rfl
end Go.Proofs.Ytfomidjhmdmmcaa

/- An append as one step of a region that draws its order: by an equation of its run. -/
namespace Go.Proofs.Ytfomidjhmdmmcaa
open Go Go.RowKit
theorem step_append_run {P : Program} {ops : Array Oper} {o : Oper} {a : Act} {w : World} {K : Act → World → Prop} {Q : Exit → Act → World → Prop} {E : Prop}
    (hg : o.guard = none) (s x : Operand) (t : TypeId) (hop : o.op = Op.call { callee := Callee.builtin Builtin.append, args := #[s, x], argTypes := #[t, t] }) {v vx v' : Value} {w' : World}
    (hrun : (Builtin.append_ #[t, t] o.type #[v, vx]).run P w = .ok v' w') (hs : a.eval s = v) (hx : a.eval x = vx)
    (hK : K (a.put o.dst v') w') : if Region.wanted o (yielded ops a.tmps) = true then Oper.wp P o a w K Q else E := by
  have hw : Region.wanted o (yielded ops a.tmps) = true := by simp [Region.wanted, hg]
  rw [if_pos hw]
  unfold Oper.wp
  simp [execOp, hop, resolve, invoke, builtin, hs, hx, hrun, Result.andThen]
  exact hK
end Go.Proofs.Ytfomidjhmdmmcaa

/- New of package index. -/
namespace Go.Proofs.Ytfomidjhmdmmcaa
open Go.RowKit Go.Shelf Go.Proofs.Ytfomidjhmdmmcaa.Plain01
set_option linter.unusedVariables false
set_option linter.unusedSimpArgs false

abbrev idxV (v : Value) (n g : Nat) : Obj := .cells #[v, .slice (some ⟨g, 0, none⟩) n n] 51 (0, 0)
/-- What New returns for extents that can be indexed, and for others. -/
def NewPost (es : List (Int × Int)) (w : World) (e : Ending) (w' : World) : Prop :=
  (Right10 es → ∃ (B : Nat) (a : Option Addr) (cap g : Nat), e = .returned (.pointer (some ⟨B, 0, none⟩)) ∧ Idx10 w' B a cap g es ∧ w.heap.size ≤ B ∧ w.heap.size ≤ g ∧ (∀ ad, a = some ad → w.heap.size ≤ ad.block)) ∧ (¬ Right10 es → e = .returned (.pointer none)) ∧ Below w.heap.size w w'
/-- The extents that are listed so far. -/
def NewRow (w : World) (es : List (Int × Int)) (idx : List Nat) (L B g k : Nat) (wr : World) : Prop :=
  ∃ (v : Value) (S : Grow w (some B) [(B, idxV v L g), (g, rowP10 idx)] [] 30 2 v k (flat10 ((sel10 es idx).take k))), wr = S.w

set_option maxRecDepth 100000 in
set_option maxHeartbeats 4000000 in
theorem new10_any (a : Option Addr) (es : List (Int × Int)) (cap : Nat) (w : World) (h : ExtSlice w a es.length (at10 es)) (hi : ∀ x ∈ es, I64 x.1 ∧ I64 x.2) (hL : es.length ≤ 1000000) :
    Calls Try.prog 10 #[.slice a es.length cap] w (NewPost es w) := by
  have hord := order10_any a es cap w h hL
  have HC := Lib.hid h
  have HI := Lib.hid hi
  obtain ⟨POST, hP⟩ : ∃ P, P = NewPost es w := ⟨_, rfl⟩
  have HNIL : Hid (∀ W, ¬ Right10 es → Below w.heap.size w W → POST (.returned (.pointer none)) W) := Lib.hid fun W h1 h2 => by
    rw [hP]
    exact ⟨fun h => absurd h h1, fun _ => rfl, h2⟩
  have HYES : Hid (∀ W B a cap g, Right10 es → Idx10 W B a cap g es → w.heap.size ≤ B → w.heap.size ≤ g → (∀ ad, a = some ad → w.heap.size ≤ ad.block) → Below w.heap.size w W → POST (.returned (.pointer (some ⟨B, 0, none⟩))) W) := Lib.hid fun W B a cap g h1 h2 h3 h4 h5 h6 => by
    rw [hP]
    exact ⟨fun _ => ⟨B, a, cap, g, rfl, h2, h3, h4, h5⟩, fun h => absurd h1 h, h6⟩
  rw [← hP]
  obtain ⟨L, hLe⟩ : ∃ L, L = es.length := ⟨_, rfl⟩
  have HL := Lib.hid hLe
  rw [← hLe] at hL ⊢
  clear h hi hP
  rw [← hLe] at hord
  clear hLe
  go_enter Try.func10, Try.ntmps10
  go_wp2_with fail
  refine hord.mono ?_
  rintro e w1 ⟨g, idx, rfl, hgw, hrow, hb, hO⟩
  rw [← HL.out]
  go_wp2_with fail
  obtain ⟨B, hBe⟩ : ∃ B, B = w1.heap.size := ⟨_, rfl⟩
  have hBw : w.heap.size ≤ B := by rw [hBe]; exact hb.size
  have hgB : g < B := by rw [hBe]; exact (Array.getElem?_eq_some_iff.1 hrow).1
  have HIL : Hid (idx.length = L) := Lib.hid (by rw [hO.1.length_eq, List.length_range, HL.out])
  have HSL : Hid ((sel10 es idx).length = L) := Lib.hid (by rw [sel10_length, HIL.out])
  have HAS : Hid (Asc10 (sel10 es idx)) := Lib.hid (by unfold Asc10 sel10; rw [List.pairwise_map]; exact hO.2)
  have HO := Lib.hid hO
  have HS0 : Hid (NewRow w es idx L B g 0 (w1.alloc (idxV (.slice none 0 0) L g))) := Lib.hid (by
    have hb2 : Below w.heap.size w (w1.alloc (idxV (.slice none 0 0) L g)) := hb.alloc hb.size _
    refine ⟨.slice none 0 0, ⟨w1.alloc (idxV (.slice none 0 0) L g), ButO.of_below hb2, World.ownsRow_nil _ w.heap.size 30 2, fun q hq => ?_, fun p hp => ?_, fun p hp => by simp at hp⟩, rfl⟩
    · cases hq
      exact ⟨by simp [Value.ownBlock], by rw [hBe]; simp⟩
    · simp only [List.mem_cons, List.not_mem_nil, or_false] at hp
      rcases hp with rfl | rfl
      · exact ⟨heap_new w1 _ hBe, by simp [Value.ownBlock]⟩
      · exact ⟨heap_old hrow _, by simp [Value.ownBlock]⟩)
  rw [← hBe]
  clear hBe hrow hb hO
  go_loopw [4, 17] (fun vend vi wr => ∃ k : Nat, k ≤ L ∧ vi = .int .i64 k ∧ ∃ E : Int, vend = .int .i64 E ∧ Hid (E = endB10 (sel10 es idx) k ∧ Good10 (sel10 es idx) k) ∧ NewRow w es idx L B g k wr) (fun _ vi _ => L - (intOf vi).toNat)
  case atStart => exact ⟨0, Nat.zero_le _, rfl, 0, rfl, Lib.hid ⟨rfl, fun j hj => by omega⟩, HS0.out⟩
  case round =>
    clear HS0
    obtain ⟨k, hk, rfl, E, rfl, hG, v, S, rfl⟩ := hrel
    by_cases hlt : k < L
    · obtain ⟨i, hi⟩ : ∃ i, idx[k]? = some i := ⟨_, List.getElem?_eq_getElem (by rw [HIL.out]; exact hlt)⟩
      have hiL : i < L := by
        have := HO.out.1.mem_iff.1 (List.mem_of_getElem? hi)
        rw [List.mem_range, ← HL.out] at this
        exact this
      have hSk : at10 (sel10 es idx) k = at10 es i := sel10_at hi
      obtain ⟨b, o, rfl, hrow⟩ := HC.out (by rw [← HL.out]; omega)
      have hbl := hrow.lt (by rw [← HL.out]; omega)
      have hbel : Below w.heap.size w S.w := S.but.below' hBw
      obtain ⟨x0, x1⟩ := hrow.below hbel hbl i (by rw [← HL.out]; exact hiL)
      have g0 : S.w.cell? ⟨g, k, none⟩ = some (.int .i64 i) := by
        rw [cell_of (S.blocks (g, rowP10 idx) (by simp)).1]
        simp [hi]
      have hbnd := HI.out _ (at10_mem (es := es) (i := i) (by rw [← HL.out]; exact hiL))
      obtain ⟨x, hx⟩ : ∃ x, x = at10 es i := ⟨_, rfl⟩
      have HX := Lib.hid (hSk.trans hx.symm)
      rw [← hx] at x0 x1 hbnd
      have hv := valid_gives x hbnd.1 hbnd.2
      obtain ⟨Be, S1, hBe, hS1⟩ := S.more (extO x)
      have HS1 := Lib.hid hS1
      have HBE : Hid (Be ≠ B ∧ g ≠ B) := Lib.hid ⟨by have := (Array.getElem?_eq_some_iff.1 (S.blocks (B, idxV v L g) (by simp)).1).1; omega, by omega⟩
      have HNO : Hid (¬ (okE x = true ∧ 0 < x.2 ∧ E ≤ x.1) → ∀ S : Grow w (some B) [(Be, extO x), (B, idxV v L g), (g, rowP10 idx)] [] 30 2 v k (flat10 ((sel10 es idx).take k)), POST (.returned (.pointer none)) S.w) := Lib.hid fun hn S => by
        refine HNIL.out _ (fun hr => ?_) (S.but.below' hBw)
        refine not_right HAS.out (k := k) (by rw [HSL.out]; exact hlt) (fun hg => hn ?_) ((right_perm (sel10_perm HO.out.1)).2 hr)
        rw [HX.out, ← hG.out.1] at hg
        exact hg
      clear hSk hrow hbl hbel hi hx hbnd hS1
      cases hok : okE x with
      | false =>
        rw [hok] at hv
        have HNO2 := Lib.hid (fun S => HNO.out (by rw [hok]; simp) S)
        clear hok
        go_wp2_with fail
        rw [HS1.out, ← hBe]
        refine (Grow.call (S := S1) (hv _)).mono ?_
        rintro e _ ⟨rfl, S2, rfl⟩
        have HR := Lib.hid (HNO2.out S2)
        clear hv x0 x1 g0 hBe HS1
        go_wp2
        first | exact HR.out | (go_ret; exact HR.out)
      | true =>
        rw [hok] at hv
        have HOK := Lib.hid hok
        go_wp2_with fail
        rw [HS1.out, ← hBe]
        refine (Grow.call (S := S1) (hv _)).mono ?_
        rintro e _ ⟨rfl, S2, rfl⟩
        clear hv x0 x1 g0 hBe HS1
        obtain ⟨b0, b1, bf⟩ := ext_cells (S2.blocks (Be, extO x) (by simp)).1
        by_cases h2 : x.2 = 0
        · have HNO2 := Lib.hid (HNO.out (by rw [h2]; simp) S2)
          have e2 : (x.2 == 0) = true := by simp [h2]
          clear hok h2
          go_wp2
          first | exact HNO2.out | (go_ret; exact HNO2.out)
        · have h2p : 0 < x.2 := by have := okE_iff.1 hok; omega
          have e2 : (x.2 == 0) = false := by simpa using h2
          by_cases h3 : x.1 < E
          · have HNO2 := Lib.hid (HNO.out (by omega) S2)
            have e3 : decide (x.1 < E) = true := by simpa using h3
            clear hok h2 h2p h3
            go_wp2
            first | exact HNO2.out | (go_ret; exact HNO2.out)
          · have HSTEP : Hid (x.1 + x.2 = endB10 (sel10 es idx) (k + 1) ∧ Good10 (sel10 es idx) (k + 1)) := Lib.hid ⟨by rw [endB10_succ, HX.out], hG.out.2.succ (by rw [HX.out]; exact hok) (by rw [HX.out]; exact h2p) (by rw [HX.out, ← hG.out.1]; omega)⟩
            have HTK : Hid (flat10 ((sel10 es idx).take (k + 1)) = flat10 ((sel10 es idx).take k) ++ cells10 x) := Lib.hid (by
              rw [take10 (by rw [HSL.out]; exact hlt), flat10_append, HX.out]
              simp [flat10])
            have e3 : decide (x.1 < E) = false := by simp; omega
            have hE := end_gives x hok
            clear h2 h2p h3 hok
            go_wp2_with fail
            obtain ⟨S1', hd1⟩ := S2.drewC
            obtain ⟨G, S3, hGe, h3⟩ := S1'.more (.cells #[.int .i64 x.1, .int .i64 x.2] 30)
            obtain ⟨E10, hE10⟩ := elem10
            obtain ⟨v', w', hap, S4, rfl⟩ := S3.run_append E10 22 ⟨G, 0, none⟩ 1 1 (cells10 x) rfl (fun j u hu => by
              rw [Addr.add_mid, Nat.zero_add, cell_of (S3.blocks (G, .cells #[.int .i64 x.1, .int .i64 x.2] 30) (by simp)).1]
              simpa [cells10] using hu) (fun u hu => by
              simp only [cells10, List.mem_cons, List.not_mem_nil, or_false] at hu
              rcases hu with rfl | rfl <;> rfl) (by unfold maxLen; omega) (by rw [hE10]; omega)
            have ho4 : ∀ X, X = flat10 ((sel10 es idx).take k) ++ cells10 x → S4.w.ownsRow w.heap.size 30 2 v' (k + 1) X := fun X hX => by rw [hX]; exact S4.own
            obtain ⟨a4, cap4, hv4, _⟩ := row10 (ho4 _ HTK.out) (by rw [List.length_take, HSL.out]; omega)
            rw [show ((sel10 es idx).take (k + 1)).length = k + 1 by rw [List.length_take, HSL.out]; omega] at hv4
            subst hv4
            have c0 : S1'.w.cell? ⟨B, 0, none⟩ = some v := cell_of (S1'.blocks (B, idxV v L g) (by simp)).1 0
            have d0 := (ext_cells (S1'.blocks (Be, extO x) (by simp)).1).1
            have d1 := (ext_cells (S1'.blocks (Be, extO x) (by simp)).1).2.1
            have c3 : S3.w.cell? ⟨B, 0, none⟩ = some v := cell_of (S3.blocks (B, idxV v L g) (by simp)).1 0
            have c4 : S4.w.cell? ⟨B, 0, none⟩ = some v := cell_of (S4.blocks (B, idxV v L g) (by simp)).1 0
            have qf := fun i => free_of (S4.blocks (B, idxV v L g) (by simp)).1 i
            have hneq : Be ≠ B ∧ g ≠ B := HBE.out
            have HS5 : Hid (∃ S5 : Grow w (some B) [(B, idxV (.slice a4 (k + 1) cap4) L g), (g, rowP10 idx), (Be, extO x)] [] 30 2 (.slice a4 (k + 1) cap4) (k + 1) (flat10 ((sel10 es idx).take (k + 1))), S4.w.setCell ⟨B, 0, none⟩ (.slice a4 (k + 1) cap4) = S5.w) := Lib.hid (by
              rw [HTK.out]
              refine S4.keep (w' := S4.w.setCell ⟨B, 0, none⟩ (.slice a4 (k + 1) cap4)) ⟨rfl, rfl, rfl, by simp, fun q hq hn => heap_setCell_other _ _ _ _ (show q ≠ B from fun e => hn (by rw [e]))⟩ _ (fun p hp => ?_)
              simp only [List.mem_cons, List.not_mem_nil, or_false] at hp
              rcases hp with rfl | rfl | rfl
              · exact ⟨heap_setCell_same _ _ _ _ _ _ (S4.blocks (B, idxV v L g) (by simp)).1, (S4.blocks (B, idxV v L g) (by simp)).2⟩
              · exact ⟨(heap_setCell_other _ _ _ _ hneq.2).trans (S4.blocks (g, rowP10 idx) (by simp)).1, (S4.blocks (g, rowP10 idx) (by simp)).2⟩
              · exact ⟨(heap_setCell_other _ _ _ _ hneq.1).trans (S4.blocks (Be, extO x) (by simp)).1, (S4.blocks (Be, extO x) (by simp)).2⟩)
            subst hGe
            clear HTK b0 b1 bf e2 e3 hE10 ho4 hneq
            go_region_law (refine step_append_run rfl (.tmp 43) (.tmp 45) 22 rfl hap (by simp [Act.eval, Act.put]) (by simp [Act.eval, Act.put]) ?_)
            all_goals (
              obtain ⟨S5, h5⟩ := HS5.out
              rw [h5]
              clear h5 HS5 hap hd1 h3 c0 d0 d1 c3 c4 qf
              obtain ⟨b0, b1, bf⟩ := ext_cells (S5.blocks (Be, extO x) (by simp)).1
              go_wp2_with fail
              refine (Grow.call (S := S5) (hE _)).mono ?_
              rintro e _ ⟨rfl, S6, rfl⟩
              clear b0 b1 bf hE
              go_wp2
              obtain ⟨S7, h7⟩ := S6.sub (bs' := [(B, idxV (.slice a4 (k + 1) cap4) L g), (g, rowP10 idx)]) (fun p hp => by simp at hp ⊢; rcases hp with rfl | rfl <;> simp)
              go_roundw
              case rel => exact ⟨k + 1, by omega, by go_num, _, rfl, HSTEP, .slice a4 (k + 1) cap4, S7, h7⟩
              case measure => simp [intOf]; omega)
    · obtain rfl : k = L := by omega
      have hR : Right10 (sel10 es idx) := good_right (by rw [HSL.out]; exact hG.out.2)
      have hRe : Right10 es := (right_perm (sel10_perm HO.out.1)).1 hR
      have hid : idx = ord10 es := ord_eq hRe HO.out.1 HO.out.2
      have hown : ∀ X, X = flat10 ((sel10 es idx).take k) → S.w.ownsRow w.heap.size 30 2 v k X := fun X hX => by rw [hX]; exact S.own
      replace hown := hown (flat10 (sel10 es idx)) (by rw [List.take_of_length_le (by rw [HSL.out]; exact Nat.le_refl _)])
      obtain ⟨a', cap', hv', hx1, hx2, hx3, hx4, _⟩ := row10 hown HSL.out.symm
      have hb0 := (S.blocks (B, idxV v k g) (by simp)).1
      have hg0 := (S.blocks (g, rowP10 idx) (by simp)).1
      rw [HSL.out] at hv' hx1 hx2
      subst hv'
      have hx1' : ∀ J, J = idx → ExtSlice S.w a' k (at10 (sel10 es J)) := fun J hJ => by rw [hJ]; exact hx1
      replace hx1 := hx1' _ hid.symm
      have hg0' : ∀ J, J = idx → S.w.heap[g]? = some (rowP10 J) := fun J hJ => by rw [hJ]; exact hg0
      replace hg0 := hg0' _ hid.symm
      have HR := Lib.hid (HYES.out S.w B a' cap' g hRe ⟨by rw [← HL.out]; exact hb0, by rw [← HL.out]; exact hx1, hg0, by rw [← HL.out]; exact hL, by rw [← HL.out]; exact hx2, hx3⟩ hBw hgw (fun ad had => (hx4 ad had).1) (S.but.below' hBw))
      clear hR hRe hid hown hx1 hx2 hx3 hx4 hb0 hg0 hG
      go_wp2
      first | exact HR.out | (go_ret; exact HR.out)
end Go.Proofs.Ytfomidjhmdmmcaa

/- The functions count, pieces and Split of package extent: what they return at every valid extent and every size. -/
namespace Go.Proofs.Ytfomidjhmdmmcaa
open Go.RowKit Go.Shelf Go.Proofs.Ytfomidjhmdmmcaa.Plain01
attribute [local go_sem] Oper.semAt_some

theorem ret_int {k : IntKind} {a b : Int} (h : a = b) : Ending.returned (.int k a) = .returned (.int k b) := by rw [h]

/-- What has come when k rounds are over. -/
def upto {α : Type} (f : Nat → α) (k : Nat) : List α := (List.range k).map f
theorem upto_succ {α : Type} (f : Nat → α) (k : Nat) : upto f (k + 1) = upto f k ++ [f k] := by simp [upto, List.range_succ]
theorem upto_length {α : Type} (f : Nat → α) (k : Nat) : (upto f k).length = k := by simp [upto]

/-- What a round that goes on keeps: the two captured boxes. -/
def KpBoxes (Be Bs : Nat) (A B : World) : Prop := B.heap[Be]? = A.heap[Be]? ∧ B.heap[Bs]? = A.heap[Bs]?

end Go.Proofs.Ytfomidjhmdmmcaa

/- Split of package extent: the pieces, in a slice of its own, at every valid extent and every size. -/
namespace Go.Proofs.Ytfomidjhmdmmcaa
open Go.RowKit Go.Shelf Go.Proofs.Ytfomidjhmdmmcaa.Plain01
attribute [local go_sem] Oper.semAt_some

theorem KpBoxes.trans {Be Bs : Nat} {A B C : World} (h : KpBoxes Be Bs A B) (k : KpBoxes Be Bs B C) : KpBoxes Be Bs A C := ⟨k.1.trans h.1, k.2.trans h.2⟩

/-- The cells of a list of extents. -/
def extCells (l : List (Int × Int)) : List Value := l.flatMap fun x => [.int .i64 x.1, .int .i64 x.2]
theorem extCells_snoc (l : List (Int × Int)) (x : Int × Int) : extCells (l ++ [x]) = extCells l ++ [.int .i64 x.1, .int .i64 x.2] := by simp [extCells]

theorem infoExtent : (Try.prog.info? 30).map (fun i => (i.zero, i.size, i.bytes)) = some (some (.agg #[.int .i64 0, .int .i64 0]), 2, 16) := by kernel_rfl

/-- What Split's caller is told. -/
def SplitPost (off len size : Int) (w : World) (e : Ending) (w' : World) : Prop :=
  ∃ v, e = .returned v ∧ w'.ownsRow w.heap.size 30 2 v (nsp len size) (extCells (upto (piece off len size) (nsp len size))) ∧ Below w.heap.size w w'

/-- The first of two new blocks, behind a growth that writes no row. -/
theorem first_kept {w w1 : World} {o0 o1 : Obj} (h : ((w.alloc o0).alloc o1).grownBy w1 none) : w1.heap[w.heap.size]? = some o0 :=
  (h.block _ (by simp; omega) (by simp)).trans ((Below.heap_alloc _ _ _ (by simp)).trans (World.alloc_heap_new w _))

/-- Three new blocks. -/
theorem three_new (w : World) (o0 : Obj) (o1 o2 : Obj) : (((w.alloc o0).alloc o1).alloc o2).heap.size = w.heap.size + 3 ∧ (((w.alloc o0).alloc o1).alloc o2).heap[w.heap.size + 1]? = some o1 ∧ (((w.alloc o0).alloc o1).alloc o2).heap[w.heap.size + 1 + 1]? = some o2 ∧ Below w.heap.size w (((w.alloc o0).alloc o1).alloc o2) := by
  refine ⟨by simp, ?_, ?_, (((Below.refl _ w).alloc (Nat.le_refl _) _).alloc (by simp) _).alloc (by simp; omega) _⟩
  · refine (Below.heap_alloc _ _ _ (by simp)).trans ?_
    have := World.alloc_heap_new (w.alloc o0) o1
    rwa [World.size_alloc] at this
  · have := World.alloc_heap_new ((w.alloc o0).alloc o1) o2
    rwa [World.size_alloc, World.size_alloc] at this

theorem two_new_cells (W : World) (a b : Value) (t : TypeId) : ∀ (j : Nat) (u : Value), [a, b][j]? = some u → (W.alloc (.cells #[a, b] t)).cell? ((⟨W.heap.size, 0, none⟩ : Addr).add j) = some u := by
  intro j u h
  have e : (⟨W.heap.size, 0, none⟩ : Addr).add j = ⟨W.heap.size, j, none⟩ := by simp [Addr.add]; omega
  rw [e, World.cell?_alloc_mark]
  simpa using h

theorem size_ownFrom {β : Type} (B m : Nat) : OwnFrom B (fun (_ : β) W => m ≤ W.heap.size) := fun _ _ _ _ hs hg _ => Nat.le_trans hs hg.size

theorem KpBoxes.refl (Be Bs : Nat) (A : World) : KpBoxes Be Bs A A := ⟨rfl, rfl⟩
theorem kpBoxes_alloc {Be Bs : Nat} {A : World} (h1 : Be < A.heap.size) (h2 : Bs < A.heap.size) (o : Obj) : KpBoxes Be Bs A (A.alloc o) := ⟨Below.heap_alloc _ _ _ h1, Below.heap_alloc _ _ _ h2⟩
/-- A growth that writes another row, then a store into another block. -/
theorem kpBoxes_grown_set {Be Bs g B : Nat} {A A' : World} (h1 : Be < A.heap.size) (h2 : Bs < A.heap.size) (hg : A.grownBy A' (some g)) (e1 : Be ≠ g) (e2 : Bs ≠ g) (e3 : Be ≠ B) (e4 : Bs ≠ B) (v : Value) : KpBoxes Be Bs A (A'.setCell ⟨B, 0, none⟩ v) :=
  ⟨(Below.heap_setCell _ _ _ _ e3).trans (hg.block _ h1 (by simpa using e1)), (Below.heap_setCell _ _ _ _ e4).trans (hg.block _ h2 (by simpa using e2))⟩

theorem cells_own {β : Type} (B : Nat) (cs : Array Value) (t : TypeId) : Own (fun (_ : β) W => W.heap[B]? = some (.cells cs t (0, 0))) := fun s X Y row hs hg hrow =>
  (hg.block B (Array.getElem?_eq_some_iff.1 hs).1 (fun e => by obtain ⟨o, ho, hc⟩ := hrow B e.symm; rw [hs] at ho; cases ho; cases hc)).trans hs

theorem kpBoxes_put {Be Bs : Nat} {w : World} (h1 : Be < w.heap.size) (h2 : Bs < w.heap.size) (W : World) (l : Nat) (o o' : Obj) (hl : w.heap.size ≤ l) (_ : W.heap[l]? = some o) (_ : o.isCells = false) (_ : o.isWalk = false) : KpBoxes Be Bs W (W.putObj l o') :=
  ⟨World.putObj_heap_other (by omega), World.putObj_heap_other (by omega)⟩

end Go.Proofs.Ytfomidjhmdmmcaa

/- The extents of an index that an extent meets: the iterator. -/
namespace Go.Proofs.Ytfomidjhmdmmcaa
open Go.RowKit Go.Shelf Go.Proofs.Ytfomidjhmdmmcaa.Plain01
attribute [local go_sem] Oper.semAt_some
set_option linter.unusedVariables false
set_option linter.unusedSimpArgs false

/-- A position and a part, as they are yielded. -/
abbrev OYd : Type := { p : Nat × (Int × Int) // okE p.2 = true ∧ 0 < p.2.2 }
def ylds (es : List (Int × Int)) (e : Int × Int) : List (Nat × (Int × Int)) := (meet10 es e).map fun i => (i, part10 es e i)
/-- What is still to be yielded from place i on. -/
def rest10 (es : List (Int × Int)) (e : Int × Int) (i : Nat) : List (Nat × (Int × Int)) := (((ord10 es).drop i).takeWhile fun j => ovlB (at10 es j) e).map fun j => (j, part10 es e j)
theorem rest10_end {es : List (Int × Int)} {e : Int × Int} {i : Nat} (h : es.length ≤ i) : rest10 es e i = [] := by
  unfold rest10
  rw [List.drop_of_length_le (by rw [ord10_length]; exact h)]
  rfl
theorem rest10_stop {es : List (Int × Int)} {e : Int × Int} {i j : Nat} (h : (ord10 es)[i]? = some j) (ho : ovlB (at10 es j) e = false) : rest10 es e i = [] := by
  obtain ⟨hi, hj⟩ := List.getElem?_eq_some_iff.1 h
  unfold rest10
  rw [List.drop_eq_getElem_cons hi, hj, List.takeWhile_cons, if_neg (by rw [ho]; simp)]
  rfl
theorem rest10_step {es : List (Int × Int)} {e : Int × Int} {i j : Nat} (h : (ord10 es)[i]? = some j) (ho : ovlB (at10 es j) e = true) : rest10 es e i = (j, part10 es e j) :: rest10 es e (i + 1) := by
  obtain ⟨hi, hj⟩ := List.getElem?_eq_some_iff.1 h
  unfold rest10
  rw [List.drop_eq_getElem_cons hi, hj, List.takeWhile_cons, if_pos ho]
  rfl
theorem ylds_from {es : List (Int × Int)} (hR : Right10 es) {e : Int × Int} (he : okE e = true) {r : Nat} (hF : FirstAt es.length (fun i => decide (e.1 < (at10 (srt10 es) i).1 + (at10 (srt10 es) i).2)) r) : ylds es e = rest10 es e r := by
  unfold ylds rest10
  rw [meet_walk hR he hF.le (fun j hj => by have := hF.no j hj; simp only [decide_eq_false_iff_not] at this; have h : at10 (sel10 es (ord10 es)) j = at10 (srt10 es) j := rfl; rw [h]; omega) (fun j h1 h2 => ?_)]
  have h : at10 (sel10 es (ord10 es)) j = at10 (srt10 es) j := rfl
  rw [h]
  have h3 := hF.yes (by omega)
  simp only [decide_eq_true_eq] at h3
  by_cases e : r = j
  · subst e; exact h3
  · have h4 := srt10_mono hR (i := r) (j := j) (by omega) h2
    have h5 := (srt10_at hR h2).2
    omega
theorem ylds_length (es : List (Int × Int)) (e : Int × Int) : (ylds es e).length ≤ es.length := by
  unfold ylds meet10
  rw [List.length_map]
  exact Nat.le_trans (List.length_filter_le _ _) (by rw [ord10_length]; exact Nat.le_refl _)

/-- What the iterator has caught. -/
structure Caught10 (w : World) (Bx Be B cap g : Nat) (a : Option Addr) (es : List (Int × Int)) (e : Int × Int) : Prop where
  x : w.heap[Bx]? = some (boxX10 (some ⟨B, 0, none⟩))
  e : w.heap[Be]? = some (.cells #[.int .i64 e.1, .int .i64 e.2] 30 (0, 0))
  idx : Idx10 w B a cap g es
theorem Caught10.below {w w' : World} {Bx Be B cap g : Nat} {a : Option Addr} {es : List (Int × Int)} {e : Int × Int} (h : Caught10 w Bx Be B cap g a es e) (hb : Below w.heap.size w w') : Caught10 w' Bx Be B cap g a es e := ⟨heap_below h.x hb, heap_below h.e hb, h.idx.below hb⟩
theorem below_grown10 {w w' : World} (h : Below w.heap.size w w') : w.grownBy w' none := ⟨h.os, h.tape, h.output, h.size, fun k hk _ => h.block k hk⟩

/-- Below B at most the blocks of H have changed. -/
structure KeepH (H : Nat → Prop) (B : Nat) (w w' : World) : Prop where
  os : w'.os = w.os
  tape : w'.tape = w.tape
  output : w'.output = w.output
  size : w.heap.size ≤ w'.heap.size
  block : ∀ k, k < B → ¬ H k → w'.heap[k]? = w.heap[k]?
theorem KeepH.of_below {H : Nat → Prop} {B B' : Nat} {w w' : World} (h : Below B' w w') (hB : B ≤ B') : KeepH H B w w' := ⟨h.os, h.tape, h.output, h.size, fun k hk _ => h.block k (by omega)⟩
theorem KeepH.trans {H : Nat → Prop} {B : Nat} {a b c : World} (p : KeepH H B a b) (q : KeepH H B b c) : KeepH H B a c := ⟨q.os.trans p.os, q.tape.trans p.tape, q.output.trans p.output, Nat.le_trans p.size q.size, fun k hk hn => (q.block k hk hn).trans (p.block k hk hn)⟩
theorem KeepH.later {H : Nat → Prop} {B : Nat} {a b c : World} (p : KeepH H B a b) (hB : B ≤ a.heap.size) (q : Below b.heap.size b c) : KeepH H B a c := p.trans (KeepH.of_below q (Nat.le_trans hB p.size))
theorem keepH_put {H : Nat → Prop} {w : World} (W : World) (l : Nat) (o o' : Obj) (hl : w.heap.size ≤ l) (ho : W.heap[l]? = some o) (h1 : o.isCells = false) (h2 : o.isWalk = false) : KeepH H w.heap.size W (W.putObj l o') :=
  KeepH.of_below (belowK_b (w := w) (Nat.le_refl _) W l o o' hl ho h1 h2) (Nat.le_refl _)
/-- The blocks of H lie elsewhere. -/
structure Clear10 (H : Nat → Prop) (Bx Be B g : Nat) (a : Option Addr) (n : Nat) : Prop where
  x : ¬ H Bx
  e : ¬ H Be
  b : ¬ H B
  g : ¬ H g
  a : 0 < n → ∀ ad, a = some ad → ¬ H ad.block
theorem Caught10.keepH {H : Nat → Prop} {w w' : World} {Bx Be B cap g : Nat} {a : Option Addr} {es : List (Int × Int)} {e : Int × Int} (h : Caught10 w Bx Be B cap g a es e) (hn : Clear10 H Bx Be B g a es.length) (hb : KeepH H w.heap.size w w') : Caught10 w' Bx Be B cap g a es e := by
  have key : ∀ {k : Nat} {o : Obj}, w.heap[k]? = some o → ¬ H k → w'.heap[k]? = some o := fun {k o} hk hh => (hb.block k (Array.getElem?_eq_some_iff.1 hk).1 hh).trans hk
  refine ⟨key h.x hn.x, key h.e hn.e, ⟨key h.idx.box hn.b, fun hp => ?_, key h.idx.pos hn.g, h.idx.few, h.idx.lcap, h.idx.capb⟩⟩
  obtain ⟨b, o, rfl, hr⟩ := h.idx.row hp
  refine ⟨b, o, rfl, fun i hi => ?_⟩
  have hbk := hb.block b (hr.lt hp) (hn.a hp _ rfl)
  exact ⟨(World.cell?_of_block hbk).trans (hr i hi).1, (World.cell?_of_block hbk).trans (hr i hi).2⟩

set_option maxRecDepth 100000 in
set_option maxHeartbeats 4000000 in
theorem commonC_stops (H : Nat → Prop) (n : Nat) (hn : 1 ≤ n) (Bx Be B cap g : Nat) (a : Option Addr) (es : List (Int × Int)) (hR : Right10 es) (e : Int × Int) (he : okE e = true) (w : World) (hC : Caught10 w Bx Be B cap g a es e) (hH : Clear10 H Bx Be B g a es.length) :
    SeqStopsK Fence.wide n Try.prog 45 #[.pointer (some ⟨Bx, 0, none⟩), .pointer (some ⟨Be, 0, none⟩)] (fun p : OYd => #[.int .i64 p.1.1, extV p.1.2]) (KeepH H w.heap.size)
      (fun ys => ys.map (·.1) = ylds es e) (fun pre => pre.map (·.1) <+: ylds es e) es.length w := fun l J Jx W hW hJ _ hY h0 => by
  have HC := Lib.hid (fun (X : World) (h : KeepH H w.heap.size w X) => hC.keepH hH h)
  have hKW : KeepH H w.heap.size w W := KeepH.of_below hW (Nat.le_refl _)
  have HJ := Lib.hid hJ
  have HR := Lib.hid hR
  have HE := Lib.hid he
  obtain ⟨L, hL⟩ : ∃ L, L = es.length := ⟨_, rfl⟩
  have HL := Lib.hid hL
  have cX : ∀ X : World, KeepH H w.heap.size w X → X.cell? ⟨Bx, 0, none⟩ = some (.pointer (some ⟨B, 0, none⟩)) := fun X h => cell_of (HC.out X h).x 0
  have cE : ∀ X : World, KeepH H w.heap.size w X → X.cell? ⟨Be, 0, none⟩ = some (.int .i64 e.1) := fun X h => cell_of (HC.out X h).e 0
  have x0 := cX W hKW
  have y0 := cE W hKW
  have ha := after_any B cap g a es hR e.1 W (hC.idx.below hW)
  rw [← hL] at hY ha
  clear hC hL hR he
  refine callsIn_of_wp Try.func45 rfl trivial ?_ rfl
  simp only [Try.ntmps45, List.size_toArray, List.length_cons, List.length_nil, Nat.reduceAdd, Nat.reduceSub, Array.replicate_succ, Array.replicate_zero, List.push_toArray, List.append_toArray, List.nil_append, List.cons_append]
  gi_wp2_with (refine ⟨trivial, ?_⟩; gi_at_call 35; refine (callsIn_wide.2 ha).mono ?_; rintro e' w1 ⟨r, rfl, hF, hb⟩)
  have HYL : Hid (ylds es e = rest10 es e r) := Lib.hid (ylds_from HR.out HE.out (by rw [← HL.out]; exact hF))
  have hrL := hF.le
  have hb1 : KeepH H w.heap.size w w1 := hKW.later (Nat.le_refl _) hb
  have hJ1 : J [] w1 := hJ _ _ _ none h0 (below_grown10 hb) (by intro r e; cases e)
  clear x0 y0 ha hF hb
  gi_loopw [4] (fun i wr => ∃ k : Nat, k ≤ L ∧ i = .int .i64 k ∧ ∃ pre : List OYd, Hid (ylds es e = pre.map (·.1) ++ rest10 es e k) ∧ J pre wr ∧ KeepH H w.heap.size w wr) (fun i _ => L - (intOf i).toNat)
  case atStart => exact ⟨r, hrL, rfl, [], Lib.hid (by rw [HYL.out]; rfl), hJ1, hb1⟩
  case round =>
    clear HYL hrL hb1 hJ1 h0 hW hKW
    obtain ⟨k, hk, rfl, pre, hp, hJs, hB⟩ := hrel
    have x0 := cX wr hB
    have hl := xlen_any B cap g a es wr (HC.out wr hB).idx
    rw [← HL.out] at hl
    by_cases hlt : k < L
    · obtain ⟨j, hj⟩ : ∃ j, (ord10 es)[k]? = some j := ⟨_, List.getElem?_eq_getElem (by rw [ord10_length, ← HL.out]; exact hlt)⟩
      have hjL := ord10_mem hj
      have hok := (right_at HR.out hjL).1
      have hsk := srt10_get hj
      obtain ⟨b, o, hab, hrow⟩ := (HC.out wr hB).idx.row (by rw [← HL.out]; omega)
      subst hab
      obtain ⟨s, hs⟩ : ∃ s, s = at10 es j := ⟨_, rfl⟩
      have hov := fun W => overlap_gives e s HE.out (by rw [hs]; exact hok) W
      rw [ovl_comm, ovlB_comm] at hov
      gi_wp2_with (refine ⟨trivial, ?_⟩; gi_at_call 12; refine (callsIn_wide.2 hl).mono ?_; rintro e' w2 ⟨rfl, rfl⟩)
      refine wpIn_wide.2 ?_
      obtain ⟨s1, h1⟩ : ∃ s1 : HeldW w2 [], w2.drew = s1.w := ⟨⟨w2.drew, (Below.refl _ _).drew, by simp⟩, rfl⟩
      obtain ⟨P, s2, hP, _, h2⟩ := s1.more (extO (0, 0))
      have hrl := hrow.lt (by rw [← HL.out]; omega)
      have FC : ∀ X, Below w2.heap.size w2 X → X.cell? ⟨Bx, 0, none⟩ = some (.pointer (some ⟨B, 0, none⟩)) ∧ X.cell? ⟨Be, 0, none⟩ = some (.int .i64 e.1) ∧ X.cell? ⟨Be, 1, none⟩ = some (.int .i64 e.2) ∧ X.cell? ⟨B, 0, none⟩ = some (.slice (some ⟨b, o, none⟩) L cap) ∧ X.cell? ⟨b, o + k * 2, none⟩ = some (.int .i64 s.1) ∧ X.cell? ⟨b, o + k * 2 + 1, none⟩ = some (.int .i64 s.2) := fun X hX => by
        have hc := HC.out X (hB.later (Nat.le_refl _) hX)
        obtain ⟨r0, r1⟩ := hrow.below hX hrl k (by rw [← HL.out]; exact hlt)
        rw [hsk, ← hs] at r0 r1
        exact ⟨cell_of hc.x 0, cell_of hc.e 0, cell_of hc.e 1, by rw [cell_of hc.idx.box, HL.out]; rfl, r0, r1⟩
      obtain ⟨p0, p1, p2, p3, p4, p5⟩ := FC s1.w s1.below
      obtain ⟨q0, q1, q2, q3, q4, q5⟩ := FC s2.w s2.below
      have hLcap : L ≤ cap := by rw [HL.out]; exact (HC.out w2 hB).idx.lcap
      have hcapb := (HC.out w2 hB).idx.capb
      obtain ⟨pt, hpt⟩ : ∃ pt, pt = part10 es e j := ⟨_, rfl⟩
      have hpt2 : ovl s e = pt := by rw [hpt, hs]; rfl
      obtain ⟨ob, hob⟩ : ∃ ob, ob = ovlB s e := ⟨_, rfl⟩
      rw [hpt2, ← hob] at hov
      subst hP
      have HPT := Lib.hid (And.intro hpt hob)
      have HS := Lib.hid hs
      have HJP := Lib.hid hj
      clear FC hrl hrow hsk hok hjL hpt2 hpt hob hs hl x0 hj cX cE
      refine Code.wp_mono (Q := fun ex a' W5 => match ex with | .normal => ∃ P', Below w2.heap.size w2 W5 ∧ W5.heap[P']? = some (extO pt) ∧ a' = { tmps := #[.func (.yield l) #[] #[], .pointer (some ⟨Bx, 0, none⟩), .pointer (some ⟨Be, 0, none⟩), undef, .int .i64 k, .pointer (some ⟨P', 0, none⟩), .bool ob, .pointer (some ⟨B, 0, none⟩), .pointer (some ⟨Be, 0, none⟩), .int .i64 e.1, .int .i64 r, .int .i64 k, .pointer (some ⟨B, 0, none⟩), .int .i64 L, .bool true, u15, u16, .tuple #[extV pt, .bool ob], .agg #[.int .i64 e.1, .int .i64 e.2], .pointer (some ⟨B, 0, none⟩), .pointer (some ⟨B, 0, none⟩), .pointer (some ⟨B, 0, none⟩), .slice (some ⟨b, o, none⟩) L cap, .int .i64 k, .pointer (some ⟨b, o + k * 2, none⟩), .agg #[.int .i64 s.1, .int .i64 s.2], .tuple #[extV pt, .bool ob], extV pt, .bool ob, u29, u30, u31, u32, u33, u34, u35, u36, u37, u38, u39, u40, u41, u42, u43], defers := [] } | _ => False) ?_ ?_
      rotate_left
      · go_region_with (go_at_call 46; refine (hov _).mono ?_; rintro e' w3 ⟨rfl, hb3⟩; (try (have bx := heap_below (s2.blocks (s1.w.heap.size, extO (0, 0)) (by simp)) hb3; obtain ⟨z0, z1, zf⟩ := ext_cells bx)))
        all_goals first
          | (exact ⟨_, (s1.below.trans (hb3.mono s1.below.size)).alloc (Nat.le_trans s1.below.size hb3.size) _, heap_new _ _ rfl, rfl⟩)
          | (exact ⟨_, ((s2.below.trans (hb3.mono s2.below.size)).setCell (p := ⟨s1.w.heap.size, 0, none⟩) s1.below.size _).setCell (p := ⟨s1.w.heap.size, 1, none⟩) s1.below.size _, heap_setCell_same _ _ _ _ _ _ (heap_setCell_same _ _ _ _ _ _ bx), rfl⟩)
      intro ex a' W5 hQ
      cases ex with
      | panic => exact hQ.elim
      | ret => exact hQ.elim
      | exit => exact hQ.elim
      | goto => exact hQ.elim
      | outgrown => exact hQ.elim
      | normal =>
      obtain ⟨P', hb5, hP5, rfl⟩ := hQ
      clear p0 p1 p2 p3 p4 p5 q0 q1 q2 q3 q4 q5 h1 h2 hov s2
      dsimp only
      have hBW5 : KeepH H w.heap.size w W5 := hB.later (Nat.le_refl _) hb5
      have hJ5 : J pre W5 := hJ _ _ _ none hJs (below_grown10 hb5) (by intro r e; cases e)
      cases hob : ob with
      | false =>
        have hend : Hid (ylds es e = pre.map (·.1)) := Lib.hid (by rw [hp.out, rest10_stop HJP.out (by rw [← HS.out, ← HPT.out.2, hob]), List.append_nil])
        subst hob
        clear hb5 hP5 hB hJs hY hJ
        gi_wp2_with fail
        refine wpIn_wide.2 ?_
        refine wp_region_class W5 [] (by kernel_rfl) (by kernel_rfl) (Below.refl _ _) (by simp) (fun hne => ?_)
        repeat (go_big_quiet_step (fail))
        refine wpQuiet_nil ?_
        rintro _ ⟨s6, rfl⟩
        clear hne
        gi_wp2
        refine bodyPost_ret (results_none rfl _ _ _) rfl ?_
        exact ⟨⟨_, rfl⟩, .inl ⟨pre, hend.out.symm, HJ.out _ _ _ none hJ5 (below_grown10 s6.below) (by intro r e; cases e)⟩⟩
      | true =>
        have hx5 := hP5
        subst hob
        obtain ⟨W6, h6⟩ : ∃ W6, W5.drew = W6 := ⟨_, rfl⟩
        have hb6 : Below W5.heap.size W5 W6 := by rw [← h6]; exact (Below.refl _ _).drew
        have hBW6 : KeepH H w.heap.size w W6 := hBW5.later (Nat.le_refl _) hb6
        have hJ6 : J pre W6 := hJ _ _ _ none hJ5 (below_grown10 hb6) (by intro r e; cases e)
        have hc6 := HC.out W6 hBW6
        have x0 : W6.cell? ⟨Bx, 0, none⟩ = some (.pointer (some ⟨B, 0, none⟩)) := cell_of hc6.x 0
        have x1 : W6.cell? ⟨B, 1, none⟩ = some (.slice (some ⟨g, 0, none⟩) L L) := by rw [hc6.idx.c1, HL.out]
        have x2 := hc6.idx.p HJP.out
        obtain ⟨y0, y1, _⟩ := ext_cells (heap_below hP5 hb6)
        have hokp : okE pt = true ∧ 0 < pt.2 := by
          rw [HPT.out.1]
          have ho2 : ovlB (at10 es j) e = true := by rw [← HS.out, ← HPT.out.2]
          obtain ⟨o1, o2, o3⟩ := ovl_spec ho2
          have e1 := okE_iff.1 (right_at HR.out (ord10_mem HJP.out)).1
          have e2 := okE_iff.1 HE.out
          unfold part10
          refine ⟨okE_iff.2 ?_, o3⟩
          omega
        have hnext : Hid (ylds es e = (pre ++ [(⟨(j, pt), hokp⟩ : OYd)]).map (·.1) ++ rest10 es e (k + 1)) := Lib.hid (by
          rw [hp.out, rest10_step HJP.out (by rw [← HS.out, ← HPT.out.2]), ← HPT.out.1]
          simp)
        have hlen : pre.length < L := by
          have h1 := ylds_length es e
          rw [hp.out, rest10_step HJP.out (by rw [← HS.out, ← HPT.out.2])] at h1
          simp at h1
          rw [HL.out]
          omega
        obtain ⟨fn, tmps, assign, body, hy, hR⟩ := hY pre ⟨(j, pt), hokp⟩ W6 hJ6 hlen
        dsimp only [extV] at hy
        clear hc6 hb5 hb6 hP5 hB hJs hY hJ hJ5 hx5
        gi_wp2_with fail
        gi_region_with (refine hR.mono ?_; intro e3 W3 hcase; obtain ⟨rb, rfl, HCS⟩ : ∃ rb : Bool, e3 = .returned (.bool rb) ∧ Hid (rb = true ∧ J (pre ++ [(⟨(j, pt), hokp⟩ : OYd)]) W3 ∧ KeepH H w.heap.size W6 W3 ∨ rb = false ∧ Jx (pre ++ [(⟨(j, pt), hokp⟩ : OYd)]) W3) := (by rcases hcase with ⟨rfl, q1, q2⟩ | ⟨rfl, q1⟩; exact ⟨true, rfl, Lib.hid (.inl ⟨rfl, q1, q2⟩)⟩; exact ⟨false, rfl, Lib.hid (.inr ⟨rfl, q1⟩)⟩); clear hcase)
        all_goals (
          rcases HCS.out with ⟨rfl, hJ3, hk3⟩ | ⟨rfl, hJx3⟩
          · gi_wp2
            go_roundw
            case rel => exact ⟨k + 1, by omega, by simp, _, hnext, hJ3, hBW6.trans hk3⟩
            case measure => simp [intOf]; omega
          · gi_wp2
            refine bodyPost_ret (results_none rfl _ _ _) rfl ?_
            exact ⟨⟨_, rfl⟩, .inr ⟨_, ⟨_, hnext.out.symm⟩, hJx3⟩⟩)
    · obtain rfl : k = L := by omega
      have hend : Hid (ylds es e = pre.map (·.1)) := Lib.hid (by rw [hp.out, rest10_end (by rw [HL.out]; exact Nat.le_refl _), List.append_nil])
      clear cX cE hp hY hJ
      gi_wp2_with (refine ⟨trivial, ?_⟩; gi_at_call 12; refine (callsIn_wide.2 hl).mono ?_; rintro e' w2 ⟨rfl, rfl⟩)
      go_end0
      exact ⟨⟨_, rfl⟩, .inl ⟨pre, hend.out.symm, hJs⟩⟩
end Go.Proofs.Ytfomidjhmdmmcaa
