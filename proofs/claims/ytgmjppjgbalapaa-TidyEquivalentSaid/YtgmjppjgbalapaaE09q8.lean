/- The first byte that none of the targets has: gap. Boxed deltas; the checks of one length and of one command of package delta. The check of one command of a delta. -/
import Derived.Test.YtgmjppjgbalapaaE09q7
import Derived.Deep.WholeRow
import Derived.Great.BuildSlice
import Derived.Test.YtgmjppjgbalapaaE09q5
namespace Go.Proofs.Ytgmjppjgbalapaa
open Go.RowKit Go.Shelf Go.Proofs.Ytgmjppjgbalapaa.Plain01
attribute [local go_sem] Oper.semAt_some
set_option linter.unusedVariables false
set_option linter.unusedSimpArgs false

theorem targets_any (ca : Option Addr) (L ccap : Nat) (a : Option Addr) (N cap : Nat) (m : Int) (w : World) : Calls Try.prog 78 #[.slice ca L ccap, .slice a N cap, .int .i64 m] w fun e w' =>
    e = .returned (.func (.func 86) #[] #[.pointer (some ⟨w.heap.size + 1, 0, none⟩), .pointer (some ⟨w.heap.size + 1 + 1, 0, none⟩), .pointer (some ⟨w.heap.size, 0, none⟩)]) ∧
      w' = ((w.alloc (boxL ca L ccap)).alloc (.cells #[.slice a N cap] 41)).alloc (.cells #[.int .i64 m] 3) := by
  go_enter Try.func78, Try.ntmps78
  go_wp2
  go_ret
  exact ⟨rfl, rfl⟩

/-- The walk has come through. -/
def Thru (pre : List (Int × Int)) : Prop := ∀ r, scan 0 (pre ++ r) = scan (endL pre) r
theorem thru_nil : Thru [] := fun r => rfl
theorem Thru.snoc {pre : List (Int × Int)} {x : Int × Int} (h : Thru pre) (hx : ¬ endL pre < x.1) : Thru (pre ++ [x]) := fun r => by
  rw [List.append_assoc, h, endL_snoc]
  show (if endL pre < x.1 then endL pre else scan (x.1 + x.2) r) = _
  rw [if_neg hx]
theorem Thru.stop {pre : List (Int × Int)} {x : Int × Int} (h : Thru pre) (hx : endL pre < x.1) : ∀ r, scan 0 ((pre ++ [x]) ++ r) = endL pre := fun r => by
  rw [List.append_assoc, h]
  show (if endL pre < x.1 then endL pre else scan (x.1 + x.2) r) = _
  rw [if_pos hx]

set_option maxRecDepth 100000 in
set_option maxHeartbeats 4000000 in
theorem gap_at (Bs Bn Bl g : Nat) (idx : Array Int) (cs : List Cmd) (ca : Option Addr) (ccap : Nat) (m : Int) (w : World) (hC : Caught w Bs Bn Bl g idx cs ca ccap m) :
    Calls Try.prog 79 #[.func (.func 86) #[] #[.pointer (some ⟨Bs, 0, none⟩), .pointer (some ⟨Bn, 0, none⟩), .pointer (some ⟨Bl, 0, none⟩)]] w (Gives (.int .i64 (scan 0 (selL cs m idx.toList))) w) := by
  refine (callsIn_wide (n := 6)).1 ?_
  have hB0 : Below w.heap.size w (w.alloc (.cells #[.int .i64 0] 3)) := (Below.refl _ w).alloc (Nat.le_refl _) _
  obtain ⟨W0, hW0⟩ : ∃ W0, w.alloc (.cells #[.int .i64 0] 3) = W0 := ⟨_, rfl⟩
  have hst := targetsC_stops 5 (by omega) Bs Bn Bl g idx cs ca ccap m w hC
  have hsz : W0.heap.size = w.heap.size + 1 := by rw [← hW0]; simp
  have bE : Boxed W0 w.heap.size 3 (.int .i64 0) := by rw [← hW0]; exact Boxed.new w 3 (.int .i64 0)
  rw [hW0] at hB0
  obtain ⟨res, hres⟩ : ∃ res, res = scan 0 (selL cs m idx.toList) := ⟨_, rfl⟩
  rw [← hres]
  have HR := Lib.hid hres
  have HW0 := Lib.hid hW0
  clear hC hres hW0
  refine callsIn_of_wp_marks Try.func79 rfl trivial ?_ rfl
  simp only [Try.ntmps79, List.size_toArray, List.length_cons, List.length_nil, Nat.reduceAdd, Nat.reduceSub, Array.replicate_succ, Array.replicate_zero, List.push_toArray, List.append_toArray, List.nil_append, List.cons_append]
  gi_wp2
  rw [HW0.out]
  refine wpIn_rangeFunc_ownH (n := 6) rfl (by omega) (gf := 86) (lb := #[.pointer (some ⟨Bs, 0, none⟩), .pointer (some ⟨Bn, 0, none⟩), .pointer (some ⟨Bl, 0, none⟩)]) rfl trivial (enters_of Try.func86 (by kernel_rfl) rfl)
    hst belowK_t (belowK_b (by omega)) hB0 (fun _ => rfl)
    (fun pre W => (Boxed W w.heap.size 3 (.int .i64 (endL (pre.map (·.1)))) ∧ Thru (pre.map (·.1))) ∧ Below w.heap.size w W ∧ w.heap.size + 1 ≤ W.heap.size)
    (fun c pre W => (c = .exit 0 ∧ ∃ v, Boxed W w.heap.size 3 (.int .i64 v) ∧ ∀ r, scan 0 (pre.map (·.1) ++ r) = v) ∧ Below w.heap.size w W)
    (OwnFrom.and (Own.from (fun s A B row hs hg hr => ⟨boxed_own _ _ (fun pre : List OExt => .int .i64 (endL (pre.map (·.1)))) s A B row hs.1 hg hr, hs.2⟩) _) (OwnFrom.and (ownFrom_below (Nat.le_refl _) (by omega)) (size_ownFrom _ _)))
    (fun c => OwnFrom.and (Own.from (fun s A B row hs hg hr => ⟨hs.1, by obtain ⟨v, h1, h2⟩ := hs.2; exact ⟨v, boxed_own _ _ (fun _ => .int .i64 v) s A B row h1 hg hr, h2⟩⟩) _) (ownFrom_below (Nat.le_refl _) (by omega)))
    ⟨⟨bE, thru_nil⟩, hB0, by omega⟩
    (fun x a' W => ∃ Bx, w.heap.size < Bx ∧ W.heap[Bx]? = some (.cells #[.int .i64 x.1.1, .int .i64 x.1.2] 52 (0, 0)) ∧ a' = { tmps := #[.func (.func 86) #[] #[.pointer (some ⟨Bs, 0, none⟩), .pointer (some ⟨Bn, 0, none⟩), .pointer (some ⟨Bl, 0, none⟩)], undef, .int .i64 0, .pointer (some ⟨w.heap.size, 0, none⟩), .pointer (some ⟨Bx, 0, none⟩), .func (.func 86) #[] #[.pointer (some ⟨Bs, 0, none⟩), .pointer (some ⟨Bn, 0, none⟩), .pointer (some ⟨Bl, 0, none⟩)], extV x.1, undef, undef, undef, undef, undef, undef, undef], defers := [] })
    (fun x a' _ X Y row hs hg hr => by obtain ⟨Bx, h1, h2, h3⟩ := hs; exact ⟨Bx, h1, cells_own Bx _ _ () X Y row h2 hg (fun r e => (hr r e).2), h3⟩)
    ?assign ?body ?done ?stop
  case assign =>
    rintro l pre x W K ⟨⟨b2, h1⟩, hB, hS3⟩ hK
    gi_wp2
    exact hK _ _ ((KeepsOthers.alloc _ _).from _) ((Below.refl _ W).alloc (by omega) _) ⟨⟨b2.alloc _, h1⟩, hB.alloc hB.size _, by simp; omega⟩ ⟨W.heap.size, by omega, World.alloc_heap_new W _, rfl⟩
  case body =>
    rintro l pre x a' W hl ⟨r, hr⟩ ⟨⟨b2, h1⟩, hB, hS3⟩ ⟨Bx, hBx, bX, rfl⟩ hlt
    have hc := b2.cell
    have hf := b2.frozen
    have x0 : W.cell? ⟨Bx, 0, none⟩ = some (.int .i64 x.1.1) := by simp [World.cell?, bX]
    have x1 : W.cell? ⟨Bx, 1, none⟩ = some (.int .i64 x.1.2) := by simp [World.cell?, bX]
    have hE := end_gives x.1 x.2 W
    have hen := endL_snoc (pre.map (·.1)) x.1
    have hmap : (pre ++ [x]).map (·.1) = pre.map (·.1) ++ [x.1] := by simp
    by_cases hx : endL (pre.map (·.1)) < x.1.1
    · have hov : Hid (∀ r, scan 0 ((pre ++ [x]).map (·.1) ++ r) = endL (pre.map (·.1))) := Lib.hid (by rw [hmap]; exact h1.stop hx)
      clear hen hmap hE h1
      generalize endL (pre.map (·.1)) = e0 at *
      gi_wp2
      exact ⟨KeepsFrom.refl _ _, ⟨rfl, e0, b2, hov.out⟩, hB⟩
    · have hov : Hid (Thru ((pre ++ [x]).map (·.1))) := Lib.hid (by rw [hmap]; exact h1.snoc hx)
      rw [← hmap] at hen
      have hen2 := Lib.hid hen
      clear hen hmap h1
      generalize endL (pre.map (·.1)) = e0 at *
      gi_wp2_with (refine ⟨trivial, ?_⟩; gi_at_call 63; refine (CallsIn.inRound l (callsIn_wide.2 hE)).mono ?_; rintro e w' ⟨rfl, hb⟩; have hc2 := (show Boxed w' _ _ _ from heap_below b2 hb).cell; have hf2 := (show Boxed w' _ _ _ from heap_below b2 hb).frozen)
      have b2' : Boxed w' w.heap.size 3 (.int .i64 e0) := heap_below b2 hb
      refine ⟨(KeepsFrom.of_grownBy (below_grown0 hb) (by intro j e; cases e)).trans ((KeepsOthers.setCell _ _ _).from _), (hb.mono (by omega)).trans ((Below.refl _ w').setCell (p := ⟨w.heap.size, 0, none⟩) (Nat.le_refl _) _), ⟨?_, hov.out⟩, (hB.trans (hb.mono hB.size)).setCell (p := ⟨w.heap.size, 0, none⟩) (Nat.le_refl _) _, by have := hb.size; simp; omega⟩
      rw [hen2.out]
      exact b2'.set _
  case done =>
    rintro D ys W hD hys ⟨⟨b2, h1⟩, hB, hS3⟩ hK
    have hcR := b2.cell
    rw [hys] at h1 hcR
    have h2 := h1 []
    rw [List.append_nil, ← HR.out] at h2
    rw [show endL (selL cs m idx.toList) = res from h2.symm] at hcR
    clear h1 hys h2 b2
    gi_wp2
    refine ⟨by simp, .inl ⟨_, _, rfl, run_takeDeferred hK, ?_⟩⟩
    exact ⟨_, results_tmp rfl _ _ _, rfl, hB.trans (belowK_b (w := w) (Nat.le_refl _) W D _ _ (by omega) hK rfl rfl)⟩
  case stop =>
    rintro D c pre W hD hpre ⟨⟨rfl, v, b2, ho⟩, hB⟩ hK
    have hcR := b2.cell
    have hv : v = res := by
      obtain ⟨r, hr⟩ := hpre
      rw [HR.out, ← hr, ho]
    subst hv
    clear hpre ho b2
    gi_wp2
    refine ⟨by simp, .inl ⟨_, _, rfl, run_takeDeferred hK, ?_⟩⟩
    exact ⟨_, results_tmp rfl _ _ _, rfl, hB.trans (belowK_b (w := w) (Nat.le_refl _) W D _ _ (by omega) hK rfl rfl)⟩
end Go.Proofs.Ytgmjppjgbalapaa

namespace Go.Proofs.Ytgmjppjgbalapaa
open Go.RowKit Go.Shelf Go.Proofs.Ytgmjppjgbalapaa.Plain01
set_option linter.unusedVariables false
set_option linter.unusedSimpArgs false

/-- The cells of a delta, under a name. -/
structure DeltaOf (D : Array Value) (o n : Int) (x y : List Int) (s : Value) : Prop where
  eq : D = deltaA o n x y s
  xl : x.length = 32
  yl : y.length = 32
abbrev deltaO (D : Array Value) : Obj := .cells D 34 (0, 0)
theorem DeltaOf.size {D : Array Value} {o n : Int} {x y : List Int} {s : Value} (h : DeltaOf D o n x y s) : D.size = 67 := by
  rw [h.eq]; simp [deltaA, deltaL, h.xl, h.yl]
theorem DeltaOf.c0 {D : Array Value} {o n : Int} {x y : List Int} {s : Value} (h : DeltaOf D o n x y s) : D[0]? = some (.int .i64 o) := by rw [h.eq]; simp [deltaA, deltaL]
theorem DeltaOf.c1 {D : Array Value} {o n : Int} {x y : List Int} {s : Value} (h : DeltaOf D o n x y s) : D[1]? = some (.int .i64 n) := by rw [h.eq]; simp [deltaA, deltaL]
theorem DeltaOf.c66 {D : Array Value} {o n : Int} {x y : List Int} {s : Value} (h : DeltaOf D o n x y s) : D[66]? = some s := by
  rw [h.eq]
  simp only [deltaA, List.getElem?_toArray]
  unfold deltaL
  rw [List.getElem?_cons_succ, List.getElem?_cons_succ, List.getElem?_append_right (by simp [h.xl]), List.getElem?_append_right (by simp [h.xl, h.yl])]
  simp [h.xl, h.yl]
theorem delta_held {w0 : World} {bs : List (Nat × Obj)} {D : Array Value} {o n : Int} {x y : List Int} {v : Value} (h : DeltaOf D o n x y v) (s : HeldW w0 bs) (b : Nat) (hm : (b, deltaO D) ∈ bs) :
    s.w.cell? ⟨b, 0, none⟩ = some (.int .i64 o) ∧ s.w.cell? ⟨b, 1, none⟩ = some (.int .i64 n) ∧ s.w.cell? ⟨b, 66, none⟩ = some v := by
  have hb := s.blocks _ hm
  exact ⟨(cell_of hb 0).trans h.c0, (cell_of hb 1).trans h.c1, (cell_of hb 66).trans h.c66⟩
theorem delta_heldA {w0 : World} {bs : List (Nat × Obj)} {D : Array Value} {o n : Int} {x y : List Int} {v : Value} (h : DeltaOf D o n x y v) (b : Nat) (hm : (b, deltaO D) ∈ bs) :
    (∀ s : HeldW w0 bs, s.w.cell? ⟨b, 0, none⟩ = some (.int .i64 o)) ∧ (∀ s : HeldW w0 bs, s.w.cell? ⟨b, 1, none⟩ = some (.int .i64 n)) ∧ (∀ s : HeldW w0 bs, s.w.cell? ⟨b, 66, none⟩ = some v) :=
  ⟨fun s => (delta_held h s b hm).1, fun s => (delta_held h s b hm).2.1, fun s => (delta_held h s b hm).2.2⟩

theorem delta_in {w0 : World} {bs : List (Nat × Obj)} (s : HeldW w0 bs) (b : Nat) (D : Array Value) (o n : Int) (x y : List Int) (v : Value) (h : DeltaOf D o n x y v) (hm : (b, deltaO D) ∈ bs) :
    s.w.cell? ⟨b, 0, none⟩ = some (.int .i64 o) ∧ s.w.cell? ⟨b, 1, none⟩ = some (.int .i64 n) ∧ s.w.cell? ⟨b, 66, none⟩ = some v := delta_held h s b hm
theorem delta_inA {w0 : World} {bs : List (Nat × Obj)} (_ : HeldW w0 bs) (b : Nat) (D : Array Value) (o n : Int) (x y : List Int) (v : Value) (h : DeltaOf D o n x y v) (hm : (b, deltaO D) ∈ bs) :
    (∀ s : HeldW w0 bs, s.w.cell? ⟨b, 0, none⟩ = some (.int .i64 o)) ∧ (∀ s : HeldW w0 bs, s.w.cell? ⟨b, 1, none⟩ = some (.int .i64 n)) ∧ (∀ s : HeldW w0 bs, s.w.cell? ⟨b, 66, none⟩ = some v) := delta_heldA h b hm

/-- A command, as a value. -/
abbrev cmdW (c : Cmd) : Value := cmdV c.k c.t c.f c.n (.slice c.a c.l.length c.cap)

theorem isLength_any (z : Int) (hz : I64 z) (w : World) : Calls Try.prog 58 #[.int .i64 z] w (Gives (.bool (okE (0, z))) w) := by
  have hv := valid_gives (0, z) i64_0 hz
  clear hz
  generalize okE (0, z) = r at hv ⊢
  go_enter Try.func58, Try.ntmps58
  go_wp2_with fail
  refine (hv w).mono ?_
  rintro e w' ⟨rfl, hb⟩
  go_wp2
  go_ret
  exact ⟨rfl, hb⟩
theorem okE_len {z : Int} : okE (0, z) = true ↔ 0 ≤ z ∧ z ≤ 4611686018427387903 := by
  rw [okE_iff]; simp
end Go.Proofs.Ytgmjppjgbalapaa

namespace Go.Proofs.Ytgmjppjgbalapaa
open Go.RowKit Go.Shelf Go.Proofs.Ytgmjppjgbalapaa.Plain01
set_option linter.unusedVariables false
set_option linter.unusedSimpArgs false

set_option maxRecDepth 100000 in
set_option maxHeartbeats 4000000 in
theorem checkCommand_any (D : Array Value) (o n : Int) (x y : List Int) (v : Value) (hD : DeltaOf D o n x y v) (c : Cmd) (hk : I64 c.t ∧ I64 c.f ∧ I64 c.n ∧ I64 c.l.length) (w : World) :
    Calls Try.prog 59 #[.agg D, cmdW c] w (Gives (.int .i64 (single o n c)) w) := by
  have hc := check_any c.k c.t c.f c.n c.a c.l.length c.cap hk.1 hk.2.1 hk.2.2.1 hk.2.2.2
  have hcode : chk c.k c.t c.f c.n c.l.length = c.code := rfl
  rw [hcode] at hc
  have HD := Lib.hid hD
  by_cases h0 : c.code ≠ 0
  · have hr : single o n c = c.code := by unfold single; rw [if_pos h0]
    rw [hr]
    generalize c.code = e0 at *
    have h1 : (e0 != 0) = true := by simpa using h0
    clear hr hcode hk hD h0
    go_enter Try.func59, Try.ntmps59
    go_wp2_with fail
    obtain ⟨S, hS⟩ := start2 w (deltaO D) (cmdO c.k c.t c.f c.n (.slice c.a c.l.length c.cap))
    rw [hS]
    clear hS
    refine (HeldW.call (s := S) (hc _)).mono ?_
    rintro e _ ⟨rfl, s1, rfl⟩
    go_wp2_with fail
    go_wp2
    go_ret
    exact ⟨rfl, s1.below⟩
  · have h0' : c.code = 0 := Classical.byContradiction h0
    rw [h0'] at hc
    rcases chk_ok h0' with ⟨hk1, hL, hn, o1, o2⟩ | ⟨hk1, hf, hn, hL, o1⟩
    · obtain ⟨k, t, f, m, l, a, cap⟩ := c
      simp only at hk1 hL hn o1 o2 hk hc ⊢
      subst hk1
      have hs := msource_copy t f m a l.length cap
      have hen := end_gives (f, m) o2
      have hg := mtarget_any 1 t f m (.inl rfl) a l.length cap
      rw [show wlen 1 m l.length = m by unfold wlen; rw [if_pos rfl]] at hg
      have hen2 := end_gives (t, m) o1
      simp only at hen hen2
      have hr : single o n ⟨1, t, f, m, l, a, cap⟩ = if o < f + m then 5 else if n < t + m then 6 else 0 := by
        unfold single
        rw [if_neg (by simpa using h0')]
        simp [Cmd.w, wlen]
      rw [hr]
      show Calls Try.prog _ #[.agg D, cmdV 1 t f m (.slice a l.length cap)] w _
      generalize l.length = L at *
      clear hr hk hD h0 h0' hL hn o1 o2 hcode
      by_cases c1 : o < f + m
      · rw [if_pos c1]
        go_enter Try.func59, Try.ntmps59
        go_wp2_with fail
        obtain ⟨S, hS⟩ := start2 w (deltaO D) (cmdO 1 t f m (.slice a L cap))
        rw [hS]
        clear hS
        refine (HeldW.call (s := S) (hc _)).mono ?_
        rintro e _ ⟨rfl, s1, rfl⟩
        obtain ⟨q0, q1, q2, q3, q4, q5⟩ := held_cmd s1 (w.heap.size + 1) 1 t f m (.slice a L cap) (by simp)
        go_wp2_with fail
        clear q0 q1 q2 q3 q4 q5
        refine (HeldW.call (s := s1) (hs _)).mono ?_
        rintro e _ ⟨rfl, s2, rfl⟩
        go_wp2_with fail
        obtain ⟨B, S3, hB, hB0, hlt, hS⟩ := s2.more1 (extO (f, m))
        rw [hS, ← hB]
        clear hS hB hlt
        refine wp_region_class _ _ (by kernel_rfl) (by kernel_rfl) (S3).below (S3).blocks (fun hne => ?_)
        obtain ⟨d0, d1, d2⟩ := delta_inA (S3) (w.heap.size) D o n x y v HD.out (by simp)
        obtain ⟨e0, e1⟩ := held_extA (S3) (B) (f, m) (by simp)
        repeat (go_big_quiet_step ((go_at_call 63; exact HeldW.call (hen _))))
        refine wpQuiet_nil ?_
        rintro _ ⟨s4, rfl⟩
        clear hne d0 d1 d2 e0 e1
        go_wp2_with fail
        go_ret
        exact ⟨rfl, s4.below⟩
      · rw [if_neg c1]
        by_cases c2 : n < t + m
        · rw [if_pos c2]
          go_enter Try.func59, Try.ntmps59
          go_wp2_with fail
          obtain ⟨S, hS⟩ := start2 w (deltaO D) (cmdO 1 t f m (.slice a L cap))
          rw [hS]
          clear hS
          refine (HeldW.call (s := S) (hc _)).mono ?_
          rintro e _ ⟨rfl, s1, rfl⟩
          obtain ⟨q0, q1, q2, q3, q4, q5⟩ := held_cmd s1 (w.heap.size + 1) 1 t f m (.slice a L cap) (by simp)
          go_wp2_with fail
          clear q0 q1 q2 q3 q4 q5
          refine (HeldW.call (s := s1) (hs _)).mono ?_
          rintro e _ ⟨rfl, s2, rfl⟩
          go_wp2_with fail
          obtain ⟨B, S3, hB, hB0, hlt, hS⟩ := s2.more1 (extO (f, m))
          rw [hS, ← hB]
          clear hS hB hlt
          refine wp_region_class _ _ (by kernel_rfl) (by kernel_rfl) (S3).below (S3).blocks (fun hne => ?_)
          obtain ⟨d0, d1, d2⟩ := delta_inA (S3) (w.heap.size) D o n x y v HD.out (by simp)
          obtain ⟨e0, e1⟩ := held_extA (S3) (B) (f, m) (by simp)
          repeat (go_big_quiet_step ((go_at_call 63; exact HeldW.call (hen _))))
          refine wpQuiet_nil ?_
          rintro _ ⟨s4, rfl⟩
          clear hne d0 d1 d2 e0 e1
          go_wp2_with fail
          refine wp_region_class _ _ (by kernel_rfl) (by kernel_rfl) (s4).below (s4).blocks (fun hne => ?_)
          obtain ⟨d0, d1, d2⟩ := delta_inA (s4) (w.heap.size) D o n x y v HD.out (by simp)
          obtain ⟨q0, q1, q2, q3, q4⟩ := held_cmdA (s4) (w.heap.size + 1) 1 t f m (.slice a L cap) (by simp)
          repeat (go_big_quiet_step ((first | (go_at_call 54; exact HeldW.call (hg _)) | (go_at_call 63; exact HeldW.call (hen2 _)))))
          refine wpQuiet_nil ?_
          rintro _ ⟨s5, rfl⟩
          clear hne d0 d1 d2 q0 q1 q2 q3 q4
          go_wp2_with fail
          go_ret
          exact ⟨rfl, s5.below⟩
        · rw [if_neg c2]
          go_enter Try.func59, Try.ntmps59
          go_wp2_with fail
          obtain ⟨S, hS⟩ := start2 w (deltaO D) (cmdO 1 t f m (.slice a L cap))
          rw [hS]
          clear hS
          refine (HeldW.call (s := S) (hc _)).mono ?_
          rintro e _ ⟨rfl, s1, rfl⟩
          obtain ⟨q0, q1, q2, q3, q4, q5⟩ := held_cmd s1 (w.heap.size + 1) 1 t f m (.slice a L cap) (by simp)
          go_wp2_with fail
          clear q0 q1 q2 q3 q4 q5
          refine (HeldW.call (s := s1) (hs _)).mono ?_
          rintro e _ ⟨rfl, s2, rfl⟩
          go_wp2_with fail
          obtain ⟨B, S3, hB, hB0, hlt, hS⟩ := s2.more1 (extO (f, m))
          rw [hS, ← hB]
          clear hS hB hlt
          refine wp_region_class _ _ (by kernel_rfl) (by kernel_rfl) (S3).below (S3).blocks (fun hne => ?_)
          obtain ⟨d0, d1, d2⟩ := delta_inA (S3) (w.heap.size) D o n x y v HD.out (by simp)
          obtain ⟨e0, e1⟩ := held_extA (S3) (B) (f, m) (by simp)
          repeat (go_big_quiet_step ((go_at_call 63; exact HeldW.call (hen _))))
          refine wpQuiet_nil ?_
          rintro _ ⟨s4, rfl⟩
          clear hne d0 d1 d2 e0 e1
          go_wp2_with fail
          refine wp_region_class _ _ (by kernel_rfl) (by kernel_rfl) (s4).below (s4).blocks (fun hne => ?_)
          obtain ⟨d0, d1, d2⟩ := delta_inA (s4) (w.heap.size) D o n x y v HD.out (by simp)
          obtain ⟨q0, q1, q2, q3, q4⟩ := held_cmdA (s4) (w.heap.size + 1) 1 t f m (.slice a L cap) (by simp)
          repeat (go_big_quiet_step ((first | (go_at_call 54; exact HeldW.call (hg _)) | (go_at_call 63; exact HeldW.call (hen2 _)))))
          refine wpQuiet_nil ?_
          rintro _ ⟨s5, rfl⟩
          clear hne d0 d1 d2 q0 q1 q2 q3 q4
          go_wp2_with fail
          go_ret
          exact ⟨rfl, s5.below⟩
    · obtain ⟨k, t, f, m, l, a, cap⟩ := c
      simp only at hk1 hL hf hn o1 hk hc ⊢
      subst hk1 hf hn
      have hs := msource_lit t 0 0 a l.length cap
      have hg := mtarget_any 2 t 0 0 (.inr rfl) a l.length cap
      rw [show wlen 2 0 l.length = l.length by unfold wlen; rw [if_neg (by omega)]] at hg
      have hen2 := end_gives (t, (l.length : Int)) o1
      simp only at hen2
      have hr : single o n ⟨2, t, 0, 0, l, a, cap⟩ = if n < t + l.length then 6 else 0 := by
        unfold single
        rw [if_neg (by simpa using h0')]
        simp [Cmd.w, wlen]
      rw [hr]
      show Calls Try.prog _ #[.agg D, cmdV 2 t 0 0 (.slice a l.length cap)] w _
      generalize l.length = L at *
      clear hr hk hD h0 h0' hL o1 hcode
      by_cases c2 : n < t + L
      · rw [if_pos c2]
        go_enter Try.func59, Try.ntmps59
        go_wp2_with fail
        obtain ⟨S, hS⟩ := start2 w (deltaO D) (cmdO 2 t 0 0 (.slice a L cap))
        rw [hS]
        clear hS
        refine (HeldW.call (s := S) (hc _)).mono ?_
        rintro e _ ⟨rfl, s1, rfl⟩
        obtain ⟨q0, q1, q2, q3, q4, q5⟩ := held_cmd s1 (w.heap.size + 1) 2 t 0 0 (.slice a L cap) (by simp)
        go_wp2_with fail
        clear q0 q1 q2 q3 q4 q5
        refine (HeldW.call (s := s1) (hs _)).mono ?_
        rintro e _ ⟨rfl, s2, rfl⟩
        go_wp2_with fail
        obtain ⟨B, S3, hB, hB0, hlt, hS⟩ := s2.more1 (extO (0, 0))
        rw [hS, ← hB]
        clear hS hB hlt
        refine wp_region_class _ _ (by kernel_rfl) (by kernel_rfl) (S3).below (S3).blocks (fun hne => ?_)
        repeat (go_big_quiet_step (fail))
        refine wpQuiet_nil ?_
        rintro _ ⟨s4, rfl⟩
        clear hne 
        go_wp2_with fail
        refine wp_region_class _ _ (by kernel_rfl) (by kernel_rfl) (s4).below (s4).blocks (fun hne => ?_)
        obtain ⟨d0, d1, d2⟩ := delta_inA (s4) (w.heap.size) D o n x y v HD.out (by simp)
        obtain ⟨q0, q1, q2, q3, q4⟩ := held_cmdA (s4) (w.heap.size + 1) 2 t 0 0 (.slice a L cap) (by simp)
        repeat (go_big_quiet_step ((first | (go_at_call 54; exact HeldW.call (hg _)) | (go_at_call 63; exact HeldW.call (hen2 _)))))
        refine wpQuiet_nil ?_
        rintro _ ⟨s5, rfl⟩
        clear hne d0 d1 d2 q0 q1 q2 q3 q4
        go_wp2_with fail
        go_ret
        exact ⟨rfl, s5.below⟩
      · rw [if_neg c2]
        go_enter Try.func59, Try.ntmps59
        go_wp2_with fail
        obtain ⟨S, hS⟩ := start2 w (deltaO D) (cmdO 2 t 0 0 (.slice a L cap))
        rw [hS]
        clear hS
        refine (HeldW.call (s := S) (hc _)).mono ?_
        rintro e _ ⟨rfl, s1, rfl⟩
        obtain ⟨q0, q1, q2, q3, q4, q5⟩ := held_cmd s1 (w.heap.size + 1) 2 t 0 0 (.slice a L cap) (by simp)
        go_wp2_with fail
        clear q0 q1 q2 q3 q4 q5
        refine (HeldW.call (s := s1) (hs _)).mono ?_
        rintro e _ ⟨rfl, s2, rfl⟩
        go_wp2_with fail
        obtain ⟨B, S3, hB, hB0, hlt, hS⟩ := s2.more1 (extO (0, 0))
        rw [hS, ← hB]
        clear hS hB hlt
        refine wp_region_class _ _ (by kernel_rfl) (by kernel_rfl) (S3).below (S3).blocks (fun hne => ?_)
        repeat (go_big_quiet_step (fail))
        refine wpQuiet_nil ?_
        rintro _ ⟨s4, rfl⟩
        clear hne 
        go_wp2_with fail
        refine wp_region_class _ _ (by kernel_rfl) (by kernel_rfl) (s4).below (s4).blocks (fun hne => ?_)
        obtain ⟨d0, d1, d2⟩ := delta_inA (s4) (w.heap.size) D o n x y v HD.out (by simp)
        obtain ⟨q0, q1, q2, q3, q4⟩ := held_cmdA (s4) (w.heap.size + 1) 2 t 0 0 (.slice a L cap) (by simp)
        repeat (go_big_quiet_step ((first | (go_at_call 54; exact HeldW.call (hg _)) | (go_at_call 63; exact HeldW.call (hen2 _)))))
        refine wpQuiet_nil ?_
        rintro _ ⟨s5, rfl⟩
        clear hne d0 d1 d2 q0 q1 q2 q3 q4
        go_wp2_with fail
        go_ret
        exact ⟨rfl, s5.below⟩
end Go.Proofs.Ytgmjppjgbalapaa
