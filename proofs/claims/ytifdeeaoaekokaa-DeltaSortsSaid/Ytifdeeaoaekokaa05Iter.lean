/- The targets of the first commands in ascending order: the iterator. -/
import Derived.RangeFuncBox
import Derived.RangeFuncLeaves
import Derived.RangeFuncNested
import Derived.Shelf.Abstract
import Derived.WalkKit
import Derived.OwnWalk
import Derived.OwnWalkIn
import Derived.TacticsInMore
import Derived.LoopNIn
import Derived.LoopIn
import Derived.Maps.AppendAt
import Derived.Test.Ytifdeeaoaekokaa05Order
import Derived.Test.Ytifdeeaoaekokaa05Ref
import Derived.Test.Ytifdeeaoaekokaa04Ext
import Derived.Test.Ytifdeeaoaekokaa01Split2
namespace Go.Proofs.Ytifdeeaoaekokaa
open Go.RowKit Go.Shelf Go.Proofs.Ytifdeeaoaekokaa.Plain01
attribute [local go_sem] Oper.semAt_some
set_option linter.unusedVariables false
set_option linter.unusedSimpArgs false

/-- The targets of the commands whose indices are listed and less than m. -/
def tgtAt (cs : List Cmd) (z : Int) : Int × Int := ((cs[z.toNat]?).map Cmd.tgt).getD (0, 0)
def selL (cs : List Cmd) (m : Int) (zs : List Int) : List (Int × Int) := (zs.filter fun z => decide (z < m)).map (tgtAt cs)
theorem tgtAt_at {cs : List Cmd} {i : Nat} {c : Cmd} (h : cs[i]? = some c) : tgtAt cs i = c.tgt := by simp [tgtAt, h]
theorem selL_snoc_in {cs : List Cmd} {m z : Int} {zs : List Int} (h : z < m) : selL cs m (zs ++ [z]) = selL cs m zs ++ [tgtAt cs z] := by simp [selL, h]
theorem selL_snoc_out {cs : List Cmd} {m z : Int} {zs : List Int} (h : ¬ z < m) : selL cs m (zs ++ [z]) = selL cs m zs := by simp [selL, h]
theorem selL_length {cs : List Cmd} {m : Int} {zs : List Int} : (selL cs m zs).length ≤ zs.length := by unfold selL; rw [List.length_map]; exact List.length_filter_le _ _
theorem selL_prefix {cs : List Cmd} {m : Int} {zs zs' : List Int} (h : zs' <+: zs) : selL cs m zs' <+: selL cs m zs := by
  obtain ⟨r, rfl⟩ := h
  exact ⟨selL cs m r, by simp [selL]⟩

/-- What the iterator has caught. -/
structure Caught (w : World) (Bs Bn Bl g : Nat) (idx : Array Int) (cs : List Cmd) (ca : Option Addr) (ccap : Nat) (m : Int) : Prop where
  s : w.heap[Bs]? = some (.cells #[.slice (some ⟨g, 0, none⟩) idx.size idx.size] 62 (0, 0))
  n : w.heap[Bn]? = some (.cells #[.int .i64 m] 3 (0, 0))
  l : w.heap[Bl]? = some (boxL ca cs.length ccap)
  g : w.heap[g]? = some (rowI idx)
  c : CmdsIn w ca cs ccap
  small : idx.size ≤ 1000000
  idx : ∀ i, i < idx.size → ∃ j : Nat, j < cs.length ∧ idx[i]! = (j : Int)
  ok : ∀ c ∈ cs, okE c.tgt = true ∧ (c.k = 1 ∨ c.k = 2)
theorem Caught.below {w w' : World} {Bs Bn Bl g : Nat} {idx : Array Int} {cs : List Cmd} {ca : Option Addr} {ccap : Nat} {m : Int} (h : Caught w Bs Bn Bl g idx cs ca ccap m) (hb : Below w.heap.size w w') : Caught w' Bs Bn Bl g idx cs ca ccap m :=
  ⟨heap_below h.s hb, heap_below h.n hb, heap_below h.l hb, heap_below h.g hb, h.c.below hb, h.small, h.idx, h.ok⟩
theorem below_grown0 {w w' : World} (h : Below w.heap.size w w') : w.grownBy w' none := ⟨h.os, h.tape, h.output, h.size, fun k hk _ => h.block k hk⟩

/-- An extent that is valid. -/
abbrev OExt : Type := { x : Int × Int // okE x = true }

theorem take_snoc {α : Type} [Inhabited α] {d : Array α} {k : Nat} (hk : k < d.size) : d.toList.take (k + 1) = d.toList.take k ++ [d[k]!] := by
  rw [List.take_add_one, getElem!_pos d k hk]
  congr 1
  simp [hk]

set_option maxRecDepth 100000 in
set_option maxHeartbeats 2000000 in
theorem targetsC_stops (n : Nat) (hn : 1 ≤ n) (Bs Bn Bl g : Nat) (idx : Array Int) (cs : List Cmd) (ca : Option Addr) (ccap : Nat) (m : Int) (w : World) (hC : Caught w Bs Bn Bl g idx cs ca ccap m) :
    SeqStopsK Fence.wide n Try.prog 65 #[.pointer (some ⟨Bs, 0, none⟩), .pointer (some ⟨Bn, 0, none⟩), .pointer (some ⟨Bl, 0, none⟩)] (fun x : OExt => #[extV x.1]) (Below w.heap.size)
      (fun ys => ys.map (·.1) = selL cs m idx.toList) (fun pre => pre.map (·.1) <+: selL cs m idx.toList) idx.size w := fun l J Jx W hW hJ _ hY h0 => by
  have HC := Lib.hid hC
  obtain ⟨N, hN⟩ : ∃ N, N = idx.size := ⟨_, rfl⟩
  obtain ⟨L, hL⟩ : ∃ L, L = cs.length := ⟨_, rfl⟩
  have cS : ∀ X : World, Below w.heap.size w X → X.cell? ⟨Bs, 0, none⟩ = some (.slice (some ⟨g, 0, none⟩) N N) := fun X h => by rw [cell_of (HC.out.below h).s, hN]; rfl
  have cN : ∀ X : World, Below w.heap.size w X → X.cell? ⟨Bn, 0, none⟩ = some (.int .i64 m) := fun X h => by rw [cell_of (HC.out.below h).n]; rfl
  have cL : ∀ X : World, Below w.heap.size w X → X.cell? ⟨Bl, 0, none⟩ = some (.slice ca L ccap) := fun X h => by rw [cell_of (HC.out.below h).l, hL]; rfl
  have cI : ∀ X : World, Below w.heap.size w X → ∀ k, k < N → X.cell? ⟨g, k, none⟩ = some (.int .i64 idx[k]!) := fun X h k hk => by
    rw [cell_of (HC.out.below h).g]
    simp [getElem!_pos idx k (by omega), show k < idx.size by omega]
  have hsm : N ≤ 1000000 := by rw [hN]; exact hC.small
  have hLb : L ≤ 9223372036854775807 := by rw [hL]; exact Nat.le_trans hC.c.len hC.c.capb
  have HN := Lib.hid hN
  have HL := Lib.hid hL
  have s0 := cS W hW
  rw [← hN] at hY
  clear hC hN hL
  refine callsIn_of_wp Try.func65 rfl trivial ?_ rfl
  simp only [Try.ntmps65, List.size_toArray, List.length_cons, List.length_nil, Nat.reduceAdd, Nat.reduceSub, Array.replicate_succ, Array.replicate_zero, List.push_toArray, List.append_toArray, List.nil_append, List.cons_append]
  gi_wp2
  gi_loopw [9] (fun i wr => ∃ k : Nat, k ≤ N ∧ i = .int .i64 k ∧ ∃ pre : List OExt, Hid (pre.map (·.1) = selL cs m (idx.toList.take k)) ∧ J pre wr ∧ Below w.heap.size w wr) (fun i _ => N - (intOf i).toNat)
  case atStart => exact ⟨0, Nat.zero_le _, rfl, [], Lib.hid rfl, h0, hW⟩
  case round =>
    clear s0
    obtain ⟨k, hk, rfl, pre, hp, hJs, hB⟩ := hrel
    by_cases hlt : k < N
    · obtain ⟨j, hj, hz⟩ := HC.out.idx k (by rw [← HN.out]; exact hlt)
      obtain ⟨c, hc⟩ : ∃ c, cs[j]? = some c := ⟨_, List.getElem?_eq_getElem hj⟩
      have i0 := cI wr hB k hlt
      have s1 := cN wr hB
      have s2 := cL wr hB
      rw [hz] at i0
      have hsn := take_snoc (d := idx) (k := k) (by rw [← HN.out]; exact hlt)
      rw [hz] at hsn
      have hlen : pre.length < N := by
        have h1 : pre.length = (pre.map (·.1)).length := by simp
        rw [hp.out] at h1
        have h2 := selL_length (cs := cs) (m := m) (zs := idx.toList.take k)
        have h3 : (idx.toList.take k).length ≤ k := by simp; omega
        omega
      by_cases hjm : (j : Int) < m
      · obtain ⟨b, o, rfl, x0, x1, x2, x3, x4⟩ := (HC.out.c.below hB).at hc
        have hok := HC.out.ok c (List.mem_of_getElem? hc)
        have hT := mtarget_any c.k c.t c.f c.n hok.2 c.a c.l.length c.cap wr
        have hnext : Hid ((pre ++ [(⟨c.tgt, hok.1⟩ : OExt)]).map (·.1) = selL cs m (idx.toList.take (k + 1))) := Lib.hid (by
          rw [hsn, selL_snoc_in hjm, tgtAt_at hc, List.map_append, hp.out]; rfl)
        have hjL : j < L := by rw [HL.out]; exact hj
        have hjm2 : decide ((j : Int) < m) = true := by simpa using hjm
        have HJ := Lib.hid hJ
        have HY := Lib.hid (fun W1 (h1 : J pre W1) => hY pre ⟨c.tgt, hok.1⟩ W1 h1 hlen)
        clear hsn hz hp hY hJ cI hk hc
        gi_wp2_with (refine ⟨trivial, ?_⟩; gi_at_call 37; refine (callsIn_wide.2 hT).mono ?_; rintro e w' ⟨rfl, hb⟩; obtain ⟨fn, tmps, assign, body, hy, hR⟩ := HY.out w' (HJ.out _ _ _ none hJs (below_grown0 hb) (by intro r e; cases e)); dsimp only [extV, Cmd.tgt, Cmd.w] at hy)
        refine hR.mono ?_
        rintro e W3 (⟨rfl, hJ3, hk3⟩ | ⟨rfl, hJx3⟩)
        · gi_wp2
          go_roundw
          case rel => exact ⟨k + 1, by omega, by simp, _, hnext, hJ3, (hB.trans (hb.mono hB.size)).trans hk3⟩
          case measure => simp [intOf]; omega
        · gi_wp2
          refine bodyPost_ret (results_none rfl _ _ _) rfl ?_
          exact ⟨⟨_, rfl⟩, .inr ⟨_, by rw [hnext.out]; exact selL_prefix (List.take_prefix _ _), hJx3⟩⟩
      · have hnext : Hid (pre.map (·.1) = selL cs m (idx.toList.take (k + 1))) := Lib.hid (by rw [hsn, selL_snoc_out hjm, hp.out])
        clear hsn hz hp hY hJ cI hk hc s2
        gi_wp2
        refine ⟨trivial, ?_⟩
        gi_wp2
        refine ⟨fun _ h => (by cases h), ?_⟩
        gi_wp2
        go_roundw
        case rel => exact ⟨k + 1, by omega, by simp, _, hnext, hJs, hB⟩
        case measure => simp [intOf]; omega
    · obtain rfl : k = N := by omega
      gi_wp2
      go_end0
      exact ⟨⟨_, rfl⟩, .inl ⟨pre, by rw [hp.out, HN.out, List.take_of_length_le (by simp)], hJs⟩⟩

/-- Two of the extents, which ascend, have bytes in common; where the walk stands still. -/
def ovL : Int → List (Int × Int) → Bool
  | _, [] => false
  | e, x :: r => if x.1 < e then true else ovL (x.1 + x.2) r
def endL (pre : List (Int × Int)) : Int := (pre.getLast?.map fun x => x.1 + x.2).getD 0
theorem endL_snoc (pre : List (Int × Int)) (x : Int × Int) : endL (pre ++ [x]) = x.1 + x.2 := by simp [endL]
theorem ovL_append : ∀ (pre : List (Int × Int)) (e : Int) (r : List (Int × Int)), ovL e (pre ++ r) = (ovL e pre || ovL ((pre.getLast?.map fun x => x.1 + x.2).getD e) r) := by
  intro pre
  induction pre with
  | nil => intro e r; simp [ovL]
  | cons a pre ih =>
    intro e r
    rw [List.cons_append, ovL, ovL]
    by_cases h : a.1 < e
    · simp [h]
    · rw [if_neg h, if_neg h, ih]
      cases pre with
      | nil => simp
      | cons b pre => simp [List.getLast?_cons_cons, List.getLast?_cons]
theorem ovL_snoc (pre : List (Int × Int)) (x : Int × Int) : ovL 0 (pre ++ [x]) = (ovL 0 pre || decide (x.1 < endL pre)) := by
  rw [ovL_append]
  unfold endL
  congr 1
theorem ovL_prefix {pre l : List (Int × Int)} (h : pre <+: l) (ho : ovL 0 pre = true) : ovL 0 l = true := by
  obtain ⟨r, rfl⟩ := h
  rw [ovL_append, ho]
  rfl

set_option maxRecDepth 100000 in
set_option maxHeartbeats 4000000 in
theorem overlap_at (Bs Bn Bl g : Nat) (idx : Array Int) (cs : List Cmd) (ca : Option Addr) (ccap : Nat) (m : Int) (w : World) (hC : Caught w Bs Bn Bl g idx cs ca ccap m) :
    Calls Try.prog 51 #[.func (.func 65) #[] #[.pointer (some ⟨Bs, 0, none⟩), .pointer (some ⟨Bn, 0, none⟩), .pointer (some ⟨Bl, 0, none⟩)]] w (Gives (.bool (ovL 0 (selL cs m idx.toList))) w) := by
  refine (callsIn_wide (n := 6)).1 ?_
  have hB0 : Below w.heap.size w ((w.alloc (.cells #[.bool false] 4)).alloc (.cells #[.int .i64 0] 3)) := ((Below.refl _ w).alloc (Nat.le_refl _) _).alloc (by simp) _
  obtain ⟨W0, hW0⟩ : ∃ W0, (w.alloc (.cells #[.bool false] 4)).alloc (.cells #[.int .i64 0] 3) = W0 := ⟨_, rfl⟩
  have hst := targetsC_stops 5 (by omega) Bs Bn Bl g idx cs ca ccap m w hC
  have hsz : W0.heap.size = w.heap.size + 2 := by rw [← hW0]; simp
  have bR : Boxed W0 w.heap.size 4 (.bool false) := by rw [← hW0]; exact (Boxed.new w 4 (.bool false)).alloc _
  have bE : Boxed W0 (w.heap.size + 1) 3 (.int .i64 0) := by
    have := Boxed.new (w.alloc (.cells #[.bool false] 4)) 3 (.int .i64 0)
    rw [World.size_alloc] at this
    rw [← hW0]; exact this
  rw [hW0] at hB0
  obtain ⟨res, hres⟩ : ∃ res, res = ovL 0 (selL cs m idx.toList) := ⟨_, rfl⟩
  rw [← hres]
  have HR := Lib.hid hres
  have HW0 := Lib.hid hW0
  clear hC hres hW0
  refine callsIn_of_wp_marks Try.func51 rfl trivial ?_ rfl
  simp only [Try.ntmps51, List.size_toArray, List.length_cons, List.length_nil, Nat.reduceAdd, Nat.reduceSub, Array.replicate_succ, Array.replicate_zero, List.push_toArray, List.append_toArray, List.nil_append, List.cons_append]
  gi_wp2
  rw [HW0.out]
  refine wpIn_rangeFunc_ownH (n := 6) rfl (by omega) (gf := 65) (lb := #[.pointer (some ⟨Bs, 0, none⟩), .pointer (some ⟨Bn, 0, none⟩), .pointer (some ⟨Bl, 0, none⟩)]) rfl trivial (enters_of Try.func65 (by kernel_rfl) rfl)
    hst belowK_t (belowK_b (by omega)) hB0 (fun _ => rfl)
    (fun pre W => (Boxed W w.heap.size 4 (.bool false) ∧ Boxed W (w.heap.size + 1) 3 (.int .i64 (endL (pre.map (·.1)))) ∧ ovL 0 (pre.map (·.1)) = false) ∧ Below w.heap.size w W ∧ w.heap.size + 2 ≤ W.heap.size)
    (fun c pre W => (c = .ret ∧ Boxed W w.heap.size 4 (.bool true) ∧ ovL 0 (pre.map (·.1)) = true) ∧ Below w.heap.size w W)
    (OwnFrom.and (Own.from (fun s A B row hs hg hr => ⟨boxed_own _ _ (fun _ => .bool false) s A B row hs.1 hg hr, boxed_own _ _ (fun pre : List OExt => .int .i64 (endL (pre.map (·.1)))) s A B row hs.2.1 hg hr, hs.2.2⟩) _) (OwnFrom.and (ownFrom_below (Nat.le_refl _) (by omega)) (size_ownFrom _ _)))
    (fun c => OwnFrom.and (Own.from (fun s A B row hs hg hr => ⟨hs.1, boxed_own _ _ (fun _ => .bool true) s A B row hs.2.1 hg hr, hs.2.2⟩) _) (ownFrom_below (Nat.le_refl _) (by omega)))
    ⟨⟨bR, bE, rfl⟩, hB0, by omega⟩
    (fun x a' W => ∃ Bx, w.heap.size + 1 < Bx ∧ W.heap[Bx]? = some (.cells #[.int .i64 x.1.1, .int .i64 x.1.2] 50 (0, 0)) ∧ a' = { tmps := #[.func (.func 65) #[] #[.pointer (some ⟨Bs, 0, none⟩), .pointer (some ⟨Bn, 0, none⟩), .pointer (some ⟨Bl, 0, none⟩)], undef, .pointer (some ⟨w.heap.size, 0, none⟩), .pointer (some ⟨w.heap.size + 1, 0, none⟩), .pointer (some ⟨Bx, 0, none⟩), .func (.func 65) #[] #[.pointer (some ⟨Bs, 0, none⟩), .pointer (some ⟨Bn, 0, none⟩), .pointer (some ⟨Bl, 0, none⟩)], extV x.1, undef, undef, undef, undef, undef, undef], defers := [] })
    (fun x a' _ X Y row hs hg hr => by obtain ⟨Bx, h1, h2, h3⟩ := hs; exact ⟨Bx, h1, cells_own Bx _ _ () X Y row h2 hg (fun r e => (hr r e).2), h3⟩)
    ?assign ?body ?done ?stop
  case assign =>
    rintro l pre x W K ⟨⟨b1, b2, h1⟩, hB, hS3⟩ hK
    gi_wp2
    exact hK _ _ ((KeepsOthers.alloc _ _).from _) ((Below.refl _ W).alloc (by omega) _) ⟨⟨b1.alloc _, b2.alloc _, h1⟩, hB.alloc hB.size _, by simp; omega⟩ ⟨W.heap.size, by omega, World.alloc_heap_new W _, rfl⟩
  case body =>
    rintro l pre x a' W hl ⟨r, hr⟩ ⟨⟨b1, b2, h1⟩, hB, hS3⟩ ⟨Bx, hBx, bX, rfl⟩ hlt
    have hc := b2.cell
    have hf := b2.frozen
    have hcR := b1.cell
    have hfR := b1.frozen
    have x0 : W.cell? ⟨Bx, 0, none⟩ = some (.int .i64 x.1.1) := by simp [World.cell?, bX]
    have x1 : W.cell? ⟨Bx, 1, none⟩ = some (.int .i64 x.1.2) := by simp [World.cell?, bX]
    have hE := end_gives x.1 x.2 W
    have hsn := ovL_snoc (pre.map (·.1)) x.1
    have hen := endL_snoc (pre.map (·.1)) x.1
    have hmap : (pre ++ [x]).map (·.1) = pre.map (·.1) ++ [x.1] := by simp
    rw [← hmap] at hsn hen
    generalize endL (pre.map (·.1)) = e0 at *
    by_cases hx : x.1.1 < e0
    · have hov : Hid (ovL 0 ((pre ++ [x]).map (·.1)) = true) := Lib.hid (by rw [hsn]; simp [hx])
      clear hsn hen hmap hE
      gi_wp2
      exact ⟨(KeepsOthers.setCell _ _ _).from _, ⟨rfl, b1.set _, hov.out⟩, hB.setCell (p := ⟨w.heap.size, 0, none⟩) (Nat.le_refl _) _⟩
    · have hov : Hid (ovL 0 ((pre ++ [x]).map (·.1)) = false) := Lib.hid (by rw [hsn, h1]; simp [hx])
      have hen2 := Lib.hid hen
      clear hsn hen hmap
      gi_wp2_with (refine ⟨trivial, ?_⟩; gi_at_call 38; refine (CallsIn.inRound l (callsIn_wide.2 hE)).mono ?_; rintro e w' ⟨rfl, hb⟩; have hc2 := (show Boxed w' _ _ _ from heap_below b2 hb).cell; have hf2 := (show Boxed w' _ _ _ from heap_below b2 hb).frozen)
      have b1' : Boxed w' w.heap.size 4 (.bool false) := heap_below b1 hb
      have b2' : Boxed w' (w.heap.size + 1) 3 (.int .i64 e0) := heap_below b2 hb
      refine ⟨(KeepsFrom.of_grownBy (below_grown0 hb) (by intro j e; cases e)).trans ((KeepsOthers.setCell _ _ _).from _), (hb.mono (by omega)).trans ((Below.refl _ w').setCell (p := ⟨w.heap.size + 1, 0, none⟩) (by simp) _), ⟨b1'.other (by omega) _, ?_, hov.out⟩, (hB.trans (hb.mono hB.size)).setCell (p := ⟨w.heap.size + 1, 0, none⟩) (by simp) _, by have := hb.size; simp; omega⟩
      rw [hen2.out]
      exact b2'.set _
  case done =>
    rintro D ys W hD hys ⟨⟨b1, b2, h1⟩, hB, hS3⟩ hK
    have hcR := b1.cell
    have hfR := b1.frozen
    rw [hys, ← HR.out] at h1
    have HH := Lib.hid h1
    clear h1 hys
    gi_wp2
    have hK' := (KeepsOthers.setCell W ⟨w.heap.size, 0, none⟩ (.bool false)).same D _ hK rfl
    refine ⟨by simp, .inl ⟨_, _, rfl, run_takeDeferred hK', ?_⟩⟩
    have hc5 := cell_kept (World.cell?_setCell_same' W ⟨w.heap.size, 0, none⟩ (.bool false) (by rw [hcR]; rfl)) (grownBy_putObj' _ D (.deferred none)) (fun r e => by cases e; exact ⟨_, hK', rfl⟩)
    refine ⟨.bool false, ?_, by rw [HH.out], (hB.setCell (p := ⟨w.heap.size, 0, none⟩) (Nat.le_refl _) _).trans (belowK_b (w := w) (Nat.le_refl _) _ D _ _ (by omega) hK' rfl rfl)⟩
    simp [results, Try.f51, go_sem, hc5]
  case stop =>
    rintro D c pre W hD hpre ⟨⟨rfl, b1, ho⟩, hB⟩ hK
    have hcR := b1.cell
    have HH := Lib.hid (ovL_prefix hpre ho)
    clear hpre ho
    gi_wp2
    refine ⟨by simp, .inl ⟨_, _, rfl, run_takeDeferred hK, ?_⟩⟩
    have hc5 := cell_kept hcR (grownBy_putObj' _ D (.deferred none)) (fun r e => by cases e; exact ⟨_, hK, rfl⟩)
    refine ⟨.bool true, ?_, by rw [HR.out, HH.out], hB.trans (belowK_b (w := w) (Nat.le_refl _) W D _ _ (by omega) hK rfl rfl)⟩
    simp [results, Try.f51, go_sem, hc5]
end Go.Proofs.Ytifdeeaoaekokaa
