/- Split of package extent: the pieces, in a slice of its own, at every valid extent and every size. -/
import Derived.Test.Ytbhpipkaojlgfaa01Split
import Derived.Deep.DeepMust
namespace Go.Proofs.Ytbhpipkaojlgfaa
open Go.RowKit Go.Shelf Go.Proofs.Ytbhpipkaojlgfaa.Plain01
attribute [local go_sem] Oper.semAt_some

/-- The value that pieces returns, as an iterator. -/
theorem pieces_stops (n : Nat) (hn : 1 ≤ n) (Be Bs : Nat) (off len size : Int) (hoff : 0 ≤ off) (hlen : 0 ≤ len) (hsum : off + len ≤ 4611686018427387903) (hs : size ≤ 9223372036854775807) (w : World)
    (hBe : w.heap[Be]? = some (.cells #[.int .i64 off, .int .i64 len] 23 (0, 0))) (hBs : w.heap[Bs]? = some (.cells #[.int .i64 size] 3 (0, 0))) :
    SeqStopsK Fence.wide n Try.prog 29 #[.pointer (some ⟨Be, 0, none⟩), .pointer (some ⟨Bs, 0, none⟩)] (fun x : Int × Int => #[extV x]) (KpBoxes Be Bs)
      (fun ys => ys = upto (piece off len size) (cnt len size).toNat) (fun pre => ∃ k, k ≤ (cnt len size).toNat ∧ pre = upto (piece off len size) k) (cnt len size).toNat w := fun l J Jx W hW hJ _ hY h0 =>
  pieces1_in n hn l Be Bs off len size hoff hlen hsum hs J Jx hY W hJ ((hW.block Be (Array.getElem?_eq_some_iff.1 hBe).1).trans hBe) ((hW.block Bs (Array.getElem?_eq_some_iff.1 hBs).1).trans hBs) h0

theorem KpBoxes.trans {Be Bs : Nat} {A B C : World} (h : KpBoxes Be Bs A B) (k : KpBoxes Be Bs B C) : KpBoxes Be Bs A C := ⟨k.1.trans h.1, k.2.trans h.2⟩

/-- The cells of a list of extents. -/
def extCells (l : List (Int × Int)) : List Value := l.flatMap fun x => [.int .i64 x.1, .int .i64 x.2]
theorem extCells_snoc (l : List (Int × Int)) (x : Int × Int) : extCells (l ++ [x]) = extCells l ++ [.int .i64 x.1, .int .i64 x.2] := by simp [extCells]

theorem infoExtent : (Try.prog.info? 23).map (fun i => (i.zero, i.size, i.bytes)) = some (some (.agg #[.int .i64 0, .int .i64 0]), 2, 16) := by kernel_rfl

/-- What Split's caller is told. -/
def SplitPost (off len size : Int) (w : World) (e : Ending) (w' : World) : Prop :=
  ∃ v, e = .returned v ∧ w'.ownsRow w.heap.size 23 2 v (nsp len size) (extCells (upto (piece off len size) (nsp len size))) ∧ Below w.heap.size w w'

/-- The first of two new blocks, behind a growth that writes no row. -/
theorem first_kept {w w1 : World} {o0 o1 : Obj} (h : ((w.alloc o0).alloc o1).grownBy w1 none) : w1.heap[w.heap.size]? = some o0 :=
  (h.block _ (by simp; omega) (by simp)).trans ((Below.heap_alloc _ _ _ (by simp)).trans (World.alloc_heap_new w _))

/-- Three new blocks. -/
theorem three_new (w : World) (o0 : Obj) (o1 o2 : Obj) : (((w.alloc o0).alloc o1).alloc o2).heap.size = w.heap.size + 3 ∧ (((w.alloc o0).alloc o1).alloc o2).heap[w.heap.size + 1]? = some o1 ∧ (((w.alloc o0).alloc o1).alloc o2).heap[w.heap.size + 1 + 1]? = some o2 ∧ Below w.heap.size w (((w.alloc o0).alloc o1).alloc o2) := by
  refine ⟨by simp, ?_, ?_, (((Below.refl _ w).alloc (Nat.le_refl _) _).alloc (by simp) _).alloc (by simp; omega) _⟩
  · refine (Below.heap_alloc _ _ _ (by simp)).trans ?_
    have := World.alloc_heap_new (w.alloc o0) o1
    rwa [World.size_alloc] at this
  · have := World.alloc_heap_new ((w.alloc o0).alloc o1) o2
    rwa [World.size_alloc, World.size_alloc] at this

theorem two_new_cells (W : World) (a b : Value) (t : TypeId) : ∀ (j : Nat) (u : Value), [a, b][j]? = some u → (W.alloc (.cells #[a, b] t)).cell? ((⟨W.heap.size, 0, none⟩ : Addr).add j) = some u := by
  intro j u h
  have e : (⟨W.heap.size, 0, none⟩ : Addr).add j = ⟨W.heap.size, j, none⟩ := by simp [Addr.add]; omega
  rw [e, World.cell?_alloc_mark]
  simpa using h

theorem size_ownFrom {β : Type} (B m : Nat) : OwnFrom B (fun (_ : β) W => m ≤ W.heap.size) := fun _ _ _ _ hs hg _ => Nat.le_trans hs hg.size

theorem KpBoxes.refl (Be Bs : Nat) (A : World) : KpBoxes Be Bs A A := ⟨rfl, rfl⟩
theorem kpBoxes_alloc {Be Bs : Nat} {A : World} (h1 : Be < A.heap.size) (h2 : Bs < A.heap.size) (o : Obj) : KpBoxes Be Bs A (A.alloc o) := ⟨Below.heap_alloc _ _ _ h1, Below.heap_alloc _ _ _ h2⟩
/-- A growth that writes another row, then a store into another block. -/
theorem kpBoxes_grown_set {Be Bs g B : Nat} {A A' : World} (h1 : Be < A.heap.size) (h2 : Bs < A.heap.size) (hg : A.grownBy A' (some g)) (e1 : Be ≠ g) (e2 : Bs ≠ g) (e3 : Be ≠ B) (e4 : Bs ≠ B) (v : Value) : KpBoxes Be Bs A (A'.setCell ⟨B, 0, none⟩ v) :=
  ⟨(Below.heap_setCell _ _ _ _ e3).trans (hg.block _ h1 (by simpa using e1)), (Below.heap_setCell _ _ _ _ e4).trans (hg.block _ h2 (by simpa using e2))⟩

theorem cells_own {β : Type} (B : Nat) (cs : Array Value) (t : TypeId) : Own (fun (_ : β) W => W.heap[B]? = some (.cells cs t (0, 0))) := fun s X Y row hs hg hrow =>
  (hg.block B (Array.getElem?_eq_some_iff.1 hs).1 (fun e => by obtain ⟨o, ho, hc⟩ := hrow B e.symm; rw [hs] at ho; cases ho; cases hc)).trans hs

theorem kpBoxes_put {Be Bs : Nat} {w : World} (h1 : Be < w.heap.size) (h2 : Bs < w.heap.size) (W : World) (l : Nat) (o o' : Obj) (hl : w.heap.size ≤ l) (_ : W.heap[l]? = some o) (_ : o.isCells = false) (_ : o.isWalk = false) : KpBoxes Be Bs W (W.putObj l o') :=
  ⟨World.putObj_heap_other (by omega), World.putObj_heap_other (by omega)⟩

theorem split_big (off len size : Int) (hlen : len ≤ 4611686018427387903) (hs : size ≤ 9223372036854775807) (hbig : 1048576 < cnt len size) (w : World) :
    Calls Try.prog 19 #[extV (off, len), .int .i64 size] w (SplitPost off len size w) := by
  go_enter Try.func19, Try.ntmps19
  go_wp2_with (go_at_call 27; refine (count_any off len size hlen hs _).mono ?_; rintro e w' ⟨rfl, rfl⟩)
  go_ret
  refine ⟨_, rfl, ?_, ((Below.refl _ w).alloc (Nat.le_refl _) _).alloc (by simp) _⟩
  rw [nsp_big hbig]
  exact World.ownsRow_nil _ _ _ _

set_option maxRecDepth 100000 in
set_option maxHeartbeats 4000000 in
theorem split_few (off len size : Int) (hoff : 0 ≤ off) (hlen : 0 ≤ len) (hsum : off + len ≤ 4611686018427387903) (hs : size ≤ 9223372036854775807) (hfew : cnt len size ≤ 1048576) (w : World) :
    Calls Try.prog 19 #[extV (off, len), .int .i64 size] w (SplitPost off len size w) := by
  have hcb := cnt_bd len size
  obtain ⟨N, hN⟩ : ∃ N : Nat, cnt len size = N := ⟨(cnt len size).toNat, by omega⟩
  have hNb : N ≤ 1048576 := by omega
  have hNs : nsp len size = N := by rw [nsp_few hfew, hN]; rfl
  have HN := Lib.hid hN
  have HNs := Lib.hid hNs
  clear hN hcb hfew hNs
  obtain ⟨i0, hi, hz0, hz1, hz2⟩ := info_parts infoExtent
  refine (callsIn_wide (n := 6)).1 ?_
  refine callsIn_of_wp_marks Try.func19 rfl trivial ?_ rfl
  simp only [Try.ntmps19, List.size_toArray, List.length_cons, List.length_nil, Nat.reduceAdd, Nat.reduceSub, Array.replicate_succ, Array.replicate_zero, List.push_toArray, List.append_toArray, List.nil_append, List.cons_append]
  gi_wp2_with (first
    | (refine ⟨trivial, ?_⟩; gi_at_call 27; refine (callsIn_wide.2 (count_any off len size (by omega) hs _)).mono ?_; rintro e w' ⟨rfl, rfl⟩; rw [HN.out])
    | (refine ⟨trivial, ?_⟩; gi_at_call 28; refine (callsIn_wide.2 (pieces_any off len size _)).mono ?_; rintro e w' ⟨rfl, rfl⟩)
    | (gi_at_make; go_must (refine wpListIn_make_own _ rfl _ _ 35 rfl w.heap.size 23 i0 (.agg #[.int .i64 0, .int .i64 0]) 2 Try.underlying35 hi hz0 hz1 .i64 .i64 _ N rfl rfl rfl (by rw [hz2]; omega) (by unfold maxLen; omega) (by simp; omega) ?_; intro w1 hown hgrow; have b0 := first_kept hgrow; have c00 : w1.cell? ⟨w.heap.size, 0, none⟩ = some (.int .i64 off) := (by simp [World.cell?, b0]); have c01 : w1.cell? ⟨w.heap.size, 1, none⟩ = some (.int .i64 len) := (by simp [World.cell?, b0]); have hlt1 : w.heap.size + 1 + 1 < w1.heap.size := (by simpa using (hown.lt _ rfl).2); have hlt0 : w.heap.size < w1.heap.size := (by omega))))
  have bL := (((Boxed.new w1 35 (.slice (some ⟨w.heap.size + 1 + 1, 0, none⟩) 0 N)).alloc (.cells #[.int .i64 off, .int .i64 len] 23)).alloc (.cells #[.int .i64 size] 3))
  have hB1 : Below w.heap.size w w1 := (((Below.refl _ w).alloc (Nat.le_refl _) _).alloc (by simp) _).grown hgrow (by simp; omega) (by intro k e; cases e)
  have hW0 := three_new w1 (.cells #[.slice (some ⟨w.heap.size + 1 + 1, 0, none⟩) 0 N] 35) (.cells #[.int .i64 off, .int .i64 len] 23) (.cells #[.int .i64 size] 3)
  obtain ⟨hsz, hE, hS, hB0⟩ := hW0
  have hown0 := ((hown.alloc (.cells #[.slice (some ⟨w.heap.size + 1 + 1, 0, none⟩) 0 N] 35)).alloc (.cells #[.int .i64 off, .int .i64 len] 23)).alloc (.cells #[.int .i64 size] 3)
  have hBW0 := hB1.trans (hB0.mono hB1.size)
  obtain ⟨W0, hW0⟩ : ∃ W0, ((w1.alloc (.cells #[.slice (some ⟨w.heap.size + 1 + 1, 0, none⟩) 0 N] 35)).alloc (.cells #[.int .i64 off, .int .i64 len] 23)).alloc (.cells #[.int .i64 size] 3) = W0 := ⟨_, rfl⟩
  simp only [World.size_alloc] at hown0
  rw [hW0] at bL hsz hE hS hBW0 hown0 ⊢
  clear hW0 hown hgrow hB0 b0 c00 c01
  obtain ⟨B, hBdef⟩ : ∃ B, w1.heap.size = B := ⟨_, rfl⟩
  have hB1s := hB1.size
  clear hB1
  rw [hBdef] at bL hsz hE hS hlt1 hlt0 hB1s ⊢
  clear hBdef w1
  have hst := pieces_stops 5 (by omega) (B + 1) (B + 1 + 1) off len size hoff hlen hsum hs W0 hE hS
  have hN' := HN.out
  rw [hN'] at hst
  simp only [Int.toNat_natCast] at hst
  clear hN'
  refine wpIn_rangeFunc_ownH (n := 6) rfl (by omega) (gf := 29) (lb := #[.pointer (some ⟨B + 1, 0, none⟩), .pointer (some ⟨B + 1 + 1, 0, none⟩)]) rfl trivial (enters_of Try.func29 (by kernel_rfl) rfl)
    hst KpBoxes.trans (kpBoxes_put (w := W0) (by omega) (by omega)) (Below.refl _ _) (fun _ => rfl)
    (fun pre W => (∃ v, Boxed W B 35 v ∧ W.ownsRow w.heap.size 23 2 v pre.length (extCells pre) ∧ v = .slice (some ⟨w.heap.size + 1 + 1, 0, none⟩) pre.length N) ∧ Below w.heap.size w W ∧ B + 3 ≤ W.heap.size)
    (fun _ _ _ => False)
    (OwnFrom.and (Own.from (holdsRow_own w.heap.size B 35 23 2 (fun pre => pre.length) extCells (fun pre v => v = .slice (some ⟨w.heap.size + 1 + 1, 0, none⟩) pre.length N)) _) (OwnFrom.and (ownFrom_below (Nat.le_refl _) (by omega)) (size_ownFrom _ _)))
    (fun _ _ _ _ _ hs _ _ => hs)
    ⟨⟨_, bL, hown0, rfl⟩, hBW0, by omega⟩
    (fun x a' W => ∃ Bx, B + 1 + 1 < Bx ∧ W.heap[Bx]? = some (.cells #[.int .i64 x.1, .int .i64 x.2] 23 (0, 0)) ∧ a' = { tmps := #[extV (off, len), .int .i64 size, .pointer (some ⟨w.heap.size, 0, none⟩), undef, .slice none 0 0, .int .i64 N, .pointer (some ⟨B, 0, none⟩), .pointer (some ⟨Bx, 0, none⟩), .agg #[.int .i64 off, .int .i64 len], .int .i64 size, .int .i64 N, .int .i64 N, .bool (decide (1048576 < (N : Int))), .int .i64 N, .slice (some ⟨w.heap.size + 1 + 1, 0, none⟩) 0 N, .agg #[.int .i64 off, .int .i64 len], .int .i64 size, .func (.func 29) #[] #[.pointer (some ⟨B + 1, 0, none⟩), .pointer (some ⟨B + 1 + 1, 0, none⟩)], extV x, undef, undef, undef, undef, undef], defers := [] })
    (fun x a' _ X Y row hs hg hr => by obtain ⟨Bx, h1, h2, h3⟩ := hs; exact ⟨Bx, h1, cells_own Bx _ _ () X Y row h2 hg (fun r e => (hr r e).2), h3⟩)
    ?assign ?body ?done ?stop
  case assign =>
    rintro l pre x W K ⟨⟨v, hv, hrow, hvv⟩, hB, hS3⟩ hK
    gi_wp2
    exact hK _ _ ((KeepsOthers.alloc _ _).from _) (kpBoxes_alloc (by omega) (by omega) _) ⟨⟨v, hv.alloc _, hrow.alloc _, hvv⟩, hB.alloc hB.size _, by simp; omega⟩ ⟨W.heap.size, by omega, World.alloc_heap_new W _, rfl⟩
  case body =>
    rintro l pre x a' W hl ⟨r, hr⟩ ⟨⟨v, hv, hrow, rfl⟩, hB, hS3⟩ ⟨Bx, hBx, bX, rfl⟩ hlt
    have hc := hv.cell
    have x0 : W.cell? ⟨Bx, 0, none⟩ = some (.int .i64 x.1) := by simp [World.cell?, bX]
    have x1 : W.cell? ⟨Bx, 1, none⟩ = some (.int .i64 x.2) := by simp [World.cell?, bX]
    have hnew := two_new_cells W (.int .i64 x.1) (.int .i64 x.2) 23
    gi_wp2_with (gi_at_builtin; go_must (refine wpListIn_append_fits _ rfl _ _ 35 rfl w.heap.size 23 i0 2 Try.underlying35 hi hz1 (w.heap.size + 1 + 1) pre.length N (extCells pre) rfl (hrow.alloc _) ⟨W.heap.size, 0, none⟩ 1 1 [.int .i64 x.1, .int .i64 x.2] rfl rfl hnew (by simp [Value.oneCell']) (by omega) ?_; intro w2 hown2 hgrow2; obtain ⟨hv1, hv2, hr2, hk2, hb2⟩ := hv.appended (by decide) hrow hB.size hB1s hown2 hgrow2; have hc1 := hv1.cell; have hf1 := hv1.frozen))
    have hkp := (kpBoxes_alloc (Be := B + 1) (Bs := B + 1 + 1) (A := W) (by omega) (by omega) (.cells #[.int .i64 x.1, .int .i64 x.2] 23)).trans (kpBoxes_grown_set (g := w.heap.size + 1 + 1) (B := B) (by simp; omega) (by simp; omega) hgrow2 (by omega) (by omega) (by omega) (by omega) (.slice (some ⟨w.heap.size + 1 + 1, 0, none⟩) (pre.length + 1) N))
    exact ⟨hk2.from _, hkp, ⟨_, hv2, by rw [extCells_snoc]; simpa using hr2, by simp⟩, hB.trans hb2, by have := hb2.size; omega⟩
  case done =>
    rintro D ys W hD rfl ⟨⟨v, hv, hrow, rfl⟩, hB, hS3⟩ hK
    have hc := hv.cell
    gi_wp2
    refine ⟨by simp, .inl ⟨_, _, rfl, run_takeDeferred hK, ?_⟩⟩
    refine ⟨_, results_tmp rfl _ _ _, _, rfl, ?_, hB.trans (belowK_b (w := w) (Nat.le_refl _) W D _ _ (by omega) hK rfl rfl)⟩
    have h2 := ownsRow_putObj hrow (.deferred none) hK rfl
    rw [upto_length] at h2
    rw [HNs.out]
    show (W.putObj D (.deferred none)).ownsRow _ _ _ (.slice (some ⟨w.heap.size + 1 + 1, 0, none⟩) (upto (piece off len size) N).length N) N _
    rw [upto_length]
    exact h2
  case stop =>
    rintro D c pre W _ _ h _
    exact h.elim

/-- Split, at every valid extent and every size. -/
theorem split_any (off len size : Int) (hoff : 0 ≤ off) (hlen : 0 ≤ len) (hsum : off + len ≤ 4611686018427387903) (hs : size ≤ 9223372036854775807) (w : World) :
    Calls Try.prog 19 #[extV (off, len), .int .i64 size] w (SplitPost off len size w) := by
  by_cases h : 1048576 < cnt len size
  · exact split_big off len size (by omega) hs h w
  · exact split_few off len size hoff hlen hsum hs (by omega) w
end Go.Proofs.Ytbhpipkaojlgfaa
