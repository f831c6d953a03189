import Derived.Test.YtdedfjkenbaebaaDoorE08a21
import Derived.Test.YtdedfjkenbaebaaDoorE08a12
import Derived.BigQuiet
/- firsts of package patch. -/
namespace Go.Proofs.YtdedfjkenbaebaaDoor
open Go.RowKit Go.Shelf Go.Proofs.YtdedfjkenbaebaaDoor.Plain01
attribute [local go_sem] Oper.semAt_some
set_option linter.unusedVariables false
set_option linter.unusedSimpArgs false

/-- The last number that came with an item. -/
def lastP {K : Type} [DecidableEq K] (pre : List (Int × K)) (y : K) : Option Int := pre.foldl (fun r x => if x.2 = y then some x.1 else r) none
theorem lastP_snoc {K : Type} [DecidableEq K] (pre : List (Int × K)) (x : Int × K) (y : K) : lastP (pre ++ [x]) y = if y = x.2 then some x.1 else lastP pre y := by
  unfold lastP
  rw [List.foldl_append]
  simp only [List.foldl_cons, List.foldl_nil]
  by_cases h : x.2 = y
  · rw [if_pos h, if_pos h.symm]
  · rw [if_neg h, if_neg (Ne.symm h)]
/-- What a map from items to their smallest places holds, from offset i on. -/
def restF {K : Type} [DecidableEq K] (l : List K) (i : Nat) (y : K) : Option Int := if fidx (l.drop i) y = -1 then none else some (i + fidx (l.drop i) y)
theorem restF_step {K : Type} [DecidableEq K] (l : List K) (i : Nat) (z : K) (h : l[i]? = some z) (y : K) : restF l i y = if y = z then some (i : Int) else restF l (i + 1) y := by
  obtain ⟨hi, hz⟩ := List.getElem?_eq_some_iff.1 h
  unfold restF
  rw [List.drop_eq_getElem_cons hi, hz]
  have hg := fidx_ge (l.drop (i + 1)) y
  by_cases e : z = y
  · have e1 : fidx (z :: l.drop (i + 1)) y = 0 := by simp [fidx, e]
    rw [e1, if_neg (by omega), if_pos e.symm]; simp
  · rw [if_neg (Ne.symm e)]
    by_cases hn : fidx (l.drop (i + 1)) y = -1
    · have e1 : fidx (z :: l.drop (i + 1)) y = -1 := by simp [fidx, e, hn]
      rw [e1, if_pos rfl, if_pos hn]
    · have e1 : fidx (z :: l.drop (i + 1)) y = fidx (l.drop (i + 1)) y + 1 := by simp [fidx, e, hn]
      rw [e1, if_neg (by omega), if_neg hn]
      simp only [Option.some.injEq]
      omega
theorem restF_0 {K : Type} [DecidableEq K] (l : List K) (y : K) : (restF l 0 y).getD (-1) = fidx l y := by
  unfold restF
  rw [List.drop_zero]
  split
  · rename_i h; rw [h]; rfl
  · simp
theorem lastP_bk8 (l : List Int) : ∀ k, k ≤ l.length → ∀ y, lastP (upto (bk8 l) k) y = restF l (l.length - k) y := by
  intro k
  induction k with
  | zero => intro _ y; simp [upto, lastP, restF, fidx]
  | succ k ih =>
    intro hk y
    rw [upto_succ, lastP_snoc, ih (by omega)]
    obtain ⟨z, hz⟩ : ∃ z, l[l.length - (k + 1)]? = some z := ⟨_, List.getElem?_eq_getElem (by omega)⟩
    have hb : bk8 l k = (((l.length - (k + 1) : Nat) : Int), z) := by unfold bk8; rw [show l.length - 1 - k = l.length - (k + 1) by omega, hz]; rfl
    rw [hb, restF_step l _ z hz, show l.length - (k + 1) + 1 = l.length - k by omega]
theorem lastP_bk2 (l : List (Int × Int)) : ∀ k, k ≤ l.length → ∀ y, lastP (upto (bk2 l) k) y = restF l (l.length - k) y := by
  intro k
  induction k with
  | zero => intro _ y; simp [upto, lastP, restF, fidx]
  | succ k ih =>
    intro hk y
    rw [upto_succ, lastP_snoc, ih (by omega)]
    obtain ⟨z, hz⟩ : ∃ z, l[l.length - (k + 1)]? = some z := ⟨_, List.getElem?_eq_getElem (by omega)⟩
    have hb : bk2 l k = (((l.length - (k + 1) : Nat) : Int), z) := by unfold bk2; rw [show l.length - 1 - k = l.length - (k + 1) by omega, hz]; rfl
    rw [hb, restF_step l _ z hz, show l.length - (k + 1) + 1 = l.length - k by omega]

theorem set_map {w W : World} {M : Nat} {o o' : Obj} (h : W.heap[M]? = some o) (hb : Below w.heap.size w W) (hM : w.heap.size ≤ M) :
    ({ W with heap := W.heap.setIfInBounds M o' } : World).heap[M]? = some o' ∧ (∀ k, k ≠ M → ({ W with heap := W.heap.setIfInBounds M o' } : World).heap[k]? = W.heap[k]?) ∧ Below w.heap.size w { W with heap := W.heap.setIfInBounds M o' } ∧ ({ W with heap := W.heap.setIfInBounds M o' } : World).heap.size = W.heap.size := by
  have hlt := (Array.getElem?_eq_some_iff.1 h).1
  have h2 : ∀ k, k ≠ M → ({ W with heap := W.heap.setIfInBounds M o' } : World).heap[k]? = W.heap[k]? := fun k hk => by
    show (W.heap.setIfInBounds M o')[k]? = _
    rw [Array.getElem?_setIfInBounds, if_neg (Ne.symm hk)]
  refine ⟨?_, h2, ⟨hb.os, hb.tape, hb.output, by simpa using hb.size, fun k hk => (h2 k (by omega)).trans (hb.block k hk)⟩, by simp⟩
  show (W.heap.setIfInBounds M o')[M]? = _
  rw [Array.getElem?_setIfInBounds, if_pos rfl, if_pos hlt]

/-- A new slice of numbers. -/
def IsInts (xs : List Int) : Value → World → Prop := fun v W => ∃ g, v = .slice (some ⟨g, 0, none⟩) xs.length xs.length ∧ IntsIn W (some ⟨g, 0, none⟩) xs xs.length
theorem stable_ints (xs : List Int) : Stable (fun W W' => Below W.heap.size W W') (IsInts xs) := fun v w w' ⟨g, h1, h2⟩ hE => ⟨g, h1, h2.below hE⟩

theorem ints_put {X : World} {D : Nat} {a : Option Addr} {l : List Int} {cap : Nat} (h : IntsIn X a l cap) (hK : X.heap[D]? = some (.deferred (some []))) : IntsIn (X.putObj D (.deferred none)) a l cap :=
  ⟨h.len, h.capb, fun hp => by
    obtain ⟨b, o, e, hc⟩ := h.cells hp
    exact ⟨b, o, e, fun i hi => cell_kept (hc i hi) (grownBy_putObj' X D (.deferred none)) (fun r e => by cases e; exact ⟨_, hK, rfl⟩)⟩⟩

/-- Two new rows. -/
def FirstsPost (p q : List Int) (w : World) (e : Ending) (w' : World) : Prop :=
  ∃ g1 g2, e = .returned (.tuple #[.slice (some ⟨g1, 0, none⟩) p.length p.length, .slice (some ⟨g2, 0, none⟩) q.length q.length]) ∧ IntsIn w' (some ⟨g1, 0, none⟩) p p.length ∧ IntsIn w' (some ⟨g2, 0, none⟩) q q.length ∧ Below w.heap.size w w'

set_option maxRecDepth 100000 in
set_option maxHeartbeats 4000000 in
theorem firsts8_any (a b : Option Addr) (l x : List Int) (cap capx : Nat) (w : World) (hl : BytesIn w a l cap) (hx : BytesIn w b x capx) (hL : l.length ≤ 1000000) (hX : x.length ≤ 1000000) :
    Calls Tryd.prog 77 #[.slice a l.length cap, .slice b x.length capx] w (FirstsPost (l.map (fidx l)) (x.map (fidx l)) w) := by
  have hlw := BytesIn.below hl (w' := (((w.alloc (.map #[] 0)).alloc (.cells #[.map (some w.heap.size)] 140)).alloc (.cells #[.slice a l.length cap] 22))) ((((Below.refl _ w).alloc (Nat.le_refl _) _).alloc (by simp) _).alloc (by simp; omega) _)
  have hMne : ∀ ad, 0 < l.length → a = some ad → ad.block ≠ w.heap.size := fun ad hp had => by
    obtain ⟨b0, o0, e0, hc⟩ := hl.cells hp
    rw [e0] at had
    cases had
    have := World.block_lt_of_cell? _ _ (hc 0 hp)
    simp only at this ⊢
    omega
  refine (callsIn_wide (n := 6)).1 ?_
  have hmm := @run_makeMap Tryd.prog
  obtain ⟨W0, hW0⟩ : ∃ W0, ((w.alloc (.map #[] 0)).alloc (.cells #[.map (some w.heap.size)] 140)).alloc (.cells #[.slice a l.length cap] 22) = W0 := ⟨_, rfl⟩
  rw [hW0] at hlw
  have hsz : W0.heap.size = w.heap.size + 3 := by rw [← hW0]; simp
  have hbM : W0.heap[w.heap.size]? = some (mapO k8 [] 0) := by rw [← hW0]; exact heap_old (heap_old (heap_new w _ rfl) _) _
  have hbB : W0.heap[w.heap.size + 1]? = some (.cells #[.map (some w.heap.size)] 140 (0, 0)) := by rw [← hW0]; exact heap_old (heap_new _ _ (by simp)) _
  have hbS : W0.heap[w.heap.size + 1 + 1]? = some (.cells #[.slice a l.length cap] 22 (0, 0)) := by rw [← hW0]; exact heap_new _ _ (by simp)
  have hBW : Below w.heap.size w W0 := by rw [← hW0]; exact (((Below.refl _ w).alloc (Nat.le_refl _) _).alloc (by simp) _).alloc (by simp; omega) _
  have hst := back8C_stops 5 (by omega) (w.heap.size + 1 + 1) w.heap.size a l cap W0 hbS (by omega) hlw hMne hL
  have HHX := Lib.hid hx
  have HHL := Lib.hid hl
  have HW0 := Lib.hid hW0
  clear hW0 hl hx hlw hMne hbS
  refine callsIn_of_wp_marks Tryd.func77 rfl trivial ?_ rfl
  simp only [Tryd.ntmps77, List.size_toArray, List.length_cons, List.length_nil, Nat.reduceAdd, Nat.reduceSub, Array.replicate_succ, Array.replicate_zero, List.push_toArray, List.append_toArray, List.nil_append, List.cons_append]
  gi_wp2_with (refine ⟨trivial, ?_⟩; gi_at_call 100; refine (callsIn_wide.2 (backward8_any a l.length cap _)).mono ?_; rintro e w' ⟨rfl, rfl⟩)
  rw [HW0.out]
  clear hmm
  refine wpIn_rangeFunc_ownG (n := 6) rfl (by omega) (gf := 114) (lb := #[.pointer (some ⟨w.heap.size + 1 + 1, 0, none⟩)]) rfl trivial (enters_of Tryd.func114 (by kernel_rfl) rfl)
    hst KpM.trans (KpM.put (Nat.le_refl _)) (Below.refl _ _) (fun _ => rfl)
    (fun pre W => (∃ es clk, W.heap[w.heap.size]? = some (mapO k8 es clk) ∧ ∀ y, getE es y = lastP pre y) ∧ W.heap[w.heap.size + 1]? = some (.cells #[.map (some w.heap.size)] 140 (0, 0)) ∧ Below w.heap.size w W ∧ w.heap.size + 3 ≤ W.heap.size)
    (fun _ _ _ => False)
    (fun s A B row hs hg hr => by
      obtain ⟨⟨es, clk, h1, h2⟩, h3, h4, h5⟩ := hs
      have hn : ∀ k, k < w.heap.size + 3 → some k ≠ row := fun k hk e => by have := (hr k e.symm).1; omega
      exact ⟨⟨es, clk, (hg.block _ (by omega) (hn _ (by omega))).trans h1, h2⟩, (hg.block _ (by omega) (hn _ (by omega))).trans h3, h4.grown hg h4.size (fun k e => by have := (hr k e).1; omega), by have := hg.size; omega⟩)
    (fun _ _ _ _ _ hs _ _ => hs)
    ⟨⟨[], 0, hbM, fun y => rfl⟩, hbB, hBW, by omega⟩
    (fun y => { tmps := #[.slice a l.length cap, .slice b x.length capx, undef, undef, .slice none 0 0, .slice none 0 0, .pointer (some ⟨w.heap.size + 1, 0, none⟩), .int .i64 y.1, .int .u8 y.2, .map (some w.heap.size), .slice a l.length cap, .func (.func 114) #[] #[.pointer (some ⟨w.heap.size + 1 + 1, 0, none⟩)], .int .i64 y.1, .int .u8 y.2, undef, undef, undef, undef, undef, undef, undef, undef, undef], defers := [] })
    ?assign ?body ?done ?stop
  case assign =>
    intro lp y W K hK
    gi_wp2
    exact hK
  case body =>
    rintro lp pre y W ⟨⟨es, clk, h1, h2⟩, h3, h4, h5⟩ hlt
    have c1 : W.cell? ⟨w.heap.size + 1, 0, none⟩ = some (.map (some w.heap.size)) := by rw [cell_of h3]; rfl
    have hup := update_any key8 W w.heap.size es clk h1 y.2 y.1
    obtain ⟨e1, e2, e3, e4⟩ := set_map (o' := mapO k8 (updE es clk y.2 y.1) (clkE es clk y.2)) h1 h4 (Nat.le_refl _)
    have HE := Lib.hid (And.intro e1 (And.intro e2 (And.intro e3 e4)))
    obtain ⟨W', hW'⟩ : ∃ W', ({ W with heap := W.heap.setIfInBounds w.heap.size (mapO k8 (updE es clk y.2 y.1) (clkE es clk y.2)) } : World) = W' := ⟨_, rfl⟩
    rw [hW'] at hup HE
    clear hW' e1 e2 e3 e4
    gi_wp2
    obtain ⟨e1, e2, e3, e4⟩ := HE.out
    exact ⟨⟨by omega, fun k o hk ho _ => (e2 k (by omega)).trans ho⟩, fun k _ hn => e2 k hn, ⟨_, _, e1, fun z => by rw [getE_upd, h2, lastP_snoc]⟩, (e2 _ (by omega)).trans h3, e3, by omega⟩
  case done =>
    rintro D ys W hD rfl ⟨⟨es, clk, h1, h2⟩, h3, h4, h5⟩ hK
    have h2' : ∀ y, yieldE es y = fidx l y := fun y => by
      unfold yieldE
      rw [h2, lastP_bk8 l l.length (Nat.le_refl _), Nat.sub_self, restF_0]
    have hBl : Below w.heap.size w W := h4
    have HLK : Hid (∀ (c : Option Addr) (z : List Int) (zc : Nat), BytesIn w c z zc → z.length ≤ 1000000 → ∀ X, Below W.heap.size W X → Calls Tryd.prog 101 #[.map (some w.heap.size), .slice c z.length zc] X fun e X' => ∃ v, e = .returned v ∧ IsInts (z.map (fidx l)) v X' ∧ Below X.heap.size X X') := Lib.hid fun c z zc hz hzl X hC => by
      refine (lookUp8_any w.heap.size clk es c z zc X (heap_below h1 hC) ((hz.below hBl).below hC) hzl).mono ?_
      rintro e X' ⟨g, rfl, hg, hrow, hb⟩
      rw [show z.map (yieldE es) = z.map (fidx l) from List.map_congr_left (fun y _ => h2' y)] at hrow ⊢
      exact ⟨_, rfl, ⟨g, rfl, ints_row hrow (by simp; exact hzl)⟩, hb⟩
    have HCB : Hid (∀ X, Below W.heap.size W X → X.cell? ⟨w.heap.size + 1, 0, none⟩ = some (.map (some w.heap.size))) := Lib.hid fun X hX => by rw [cell_of (heap_below h3 hX)]; rfl
    have HD := Lib.hid (And.intro hD hK)
    have HBL := Lib.hid hBl
    clear h1 h2 h3 h4 h5 h2' hst hbM hbB hBW hD hK hBl
    gi_wp2
    refine wpIn_wide.2 ?_
    refine wp_region_loose
      [IsV (.map (some w.heap.size)), IsV (.slice a l.length cap), IsInts (l.map (fidx l)), IsV (.map (some w.heap.size)), IsV (.slice b x.length capx), IsInts (x.map (fidx l)), IsInts (l.map (fidx l)), IsInts (x.map (fidx l))]
      [⟨17, [], [6]⟩, ⟨18, [], [0]⟩, ⟨19, [(0, 17), (1, 18)], []⟩, ⟨20, [], [6]⟩, ⟨21, [], [1]⟩, ⟨22, [(3, 20), (4, 21)], []⟩, ⟨4, [(2, 19)], []⟩, ⟨5, [(5, 22)], []⟩]
      (fun X => Below W.heap.size W X) (fun X X' => Below X.heap.size X X') (by kernel_rfl) (by kernel_rfl) rfl rfl (Below.refl _ W).drew ?_
      ⟨?_, ?_, ?_, ?_, ?_, ?_, ?_, ?_, trivial⟩ ?_
    · repeat (first | (intro _ h; cases h; done) | refine List.forall_mem_cons.2 ⟨stable_V _ _, ?_⟩ | refine List.forall_mem_cons.2 ⟨stable_ints _, ?_⟩)
    · intro A W hC hd hx
      have hk : ∀ v, A.eval (.const v) = v := fun _ => rfl
      have hy0 : A.eval (.tmp 6) = .pointer (some ⟨w.heap.size + 1, 0, none⟩) := hx 6 (by simp)
      have c1 := HCB.out W hC
      clear hd
      generalize A.eval = ρ at hk hy0 ⊢
      simp [go_sem, looseUpon, factOf, hk, hy0, c1]
      exact ⟨hC, Below.refl _ _⟩
    · intro A W hC hd hx
      have hk : ∀ v, A.eval (.const v) = v := fun _ => rfl
      have hy0 : A.eval (.tmp 0) = .slice a l.length cap := hx 0 (by simp)
      clear hd
      generalize A.eval = ρ at hk hy0 ⊢
      simp [go_sem, looseUpon, factOf, hk, hy0]
      exact ⟨hC, Below.refl _ _⟩
    · intro A W hC hd hx
      simp [factOf] at hd
      refine ⟨fun g hg => (by cases hg), ?_⟩
      refine loose_call rfl Tryd.func101 (by kernel_rfl) (by kernel_rfl) ?_
      simp only [List.map_toArray, List.map_cons, List.map_nil, hd]
      refine (HLK.out a l cap HHL.out hL W hC).mono ?_
      rintro e' W' ⟨v, rfl, h3, h4⟩
      exact ⟨_, rfl, h3, hC.trans (h4.mono hC.size), h4⟩
    · intro A W hC hd hx
      have hk : ∀ v, A.eval (.const v) = v := fun _ => rfl
      have hy0 : A.eval (.tmp 6) = .pointer (some ⟨w.heap.size + 1, 0, none⟩) := hx 6 (by simp)
      have c1 := HCB.out W hC
      clear hd
      generalize A.eval = ρ at hk hy0 ⊢
      simp [go_sem, looseUpon, factOf, hk, hy0, c1]
      exact ⟨hC, Below.refl _ _⟩
    · intro A W hC hd hx
      have hk : ∀ v, A.eval (.const v) = v := fun _ => rfl
      have hy0 : A.eval (.tmp 1) = .slice b x.length capx := hx 1 (by simp)
      clear hd
      generalize A.eval = ρ at hk hy0 ⊢
      simp [go_sem, looseUpon, factOf, hk, hy0]
      exact ⟨hC, Below.refl _ _⟩
    · intro A W hC hd hx
      simp [factOf] at hd
      refine ⟨fun g hg => (by cases hg), ?_⟩
      refine loose_call rfl Tryd.func101 (by kernel_rfl) (by kernel_rfl) ?_
      simp only [List.map_toArray, List.map_cons, List.map_nil, hd]
      refine (HLK.out b x capx HHX.out hX W hC).mono ?_
      rintro e' W' ⟨v, rfl, h3, h4⟩
      exact ⟨_, rfl, h3, hC.trans (h4.mono hC.size), h4⟩
    · intro A W hC hd hx
      simp [factOf] at hd
      refine ⟨fun g hg => (by cases hg), ?_⟩
      generalize A.eval = ρ at hd ⊢
      simp [go_sem, looseUpon, factOf]
      exact ⟨hd, hC, Below.refl _ _⟩
    · intro A W hC hd hx
      simp [factOf] at hd
      refine ⟨fun g hg => (by cases hg), ?_⟩
      generalize A.eval = ρ at hd ⊢
      simp [go_sem, looseUpon, factOf]
      exact ⟨hd, hC, Below.refl _ _⟩
    · intro X hC
      simp only [ends]
      rintro _ rfl _ rfl _ ⟨g1, rfl, i1⟩ _ rfl _ rfl _ ⟨g2, rfl, i2⟩ _ ⟨g3, rfl, i3⟩ _ ⟨g4, rfl, i4⟩
      simp only [putAll, List.zip_cons_cons, List.zip_nil_left, List.foldl_cons, List.foldl_nil, Act.put, List.setIfInBounds_toArray, List.set_cons_succ, List.set_cons_zero]
      have hK2 : X.heap[D]? = some (.deferred (some [])) := heap_below HD.out.2 hC
      gi_wp2
      refine ⟨by simp, .inl ⟨_, _, rfl, run_takeDeferred hK2, ?_⟩⟩
      refine ⟨.tuple #[.slice (some ⟨g3, 0, none⟩) (l.map (fidx l)).length (l.map (fidx l)).length, .slice (some ⟨g4, 0, none⟩) (x.map (fidx l)).length (x.map (fidx l)).length], by simp [results, Tryd.f77, go_sem], g3, g4, rfl, ints_put i3 hK2, ints_put i4 hK2, ?_⟩
      exact ((HBL.out).trans (hC.mono HBL.out.size)).trans (belowK_b (w := w) (Nat.le_refl _) X D _ _ (by have := HD.out.1; omega) hK2 rfl rfl)
  case stop =>
    rintro D c pre W _ _ h _
    exact h.elim
set_option maxRecDepth 100000 in
set_option maxHeartbeats 4000000 in
theorem firsts2_any (a b : Option Addr) (l x : List (Int × Int)) (cap capx : Nat) (w : World) (hl : PairsIn w a l cap) (hx : PairsIn w b x capx) (hL : l.length ≤ 1000000) (hX : x.length ≤ 1000000) :
    Calls Tryd.prog 78 #[.slice a l.length cap, .slice b x.length capx] w (FirstsPost (l.map (fidx l)) (x.map (fidx l)) w) := by
  have hlw := PairsIn.below hl (w' := (((w.alloc (.map #[] 0)).alloc (.cells #[.map (some w.heap.size)] 145)).alloc (.cells #[.slice a l.length cap] 113))) ((((Below.refl _ w).alloc (Nat.le_refl _) _).alloc (by simp) _).alloc (by simp; omega) _)
  have hMne : ∀ ad, 0 < l.length → a = some ad → ad.block ≠ w.heap.size := fun ad hp had => by
    obtain ⟨b0, o0, e0, hc⟩ := hl.cells hp
    rw [e0] at had
    cases had
    have := World.block_lt_of_cell? _ _ (hc 0 _ (List.getElem?_eq_getElem hp)).1
    simp only at this ⊢
    omega
  refine (callsIn_wide (n := 6)).1 ?_
  have hmm := @run_makeMap Tryd.prog
  obtain ⟨W0, hW0⟩ : ∃ W0, ((w.alloc (.map #[] 0)).alloc (.cells #[.map (some w.heap.size)] 145)).alloc (.cells #[.slice a l.length cap] 113) = W0 := ⟨_, rfl⟩
  rw [hW0] at hlw
  have hsz : W0.heap.size = w.heap.size + 3 := by rw [← hW0]; simp
  have hbM : W0.heap[w.heap.size]? = some (mapO k2 [] 0) := by rw [← hW0]; exact heap_old (heap_old (heap_new w _ rfl) _) _
  have hbB : W0.heap[w.heap.size + 1]? = some (.cells #[.map (some w.heap.size)] 145 (0, 0)) := by rw [← hW0]; exact heap_old (heap_new _ _ (by simp)) _
  have hbS : W0.heap[w.heap.size + 1 + 1]? = some (.cells #[.slice a l.length cap] 113 (0, 0)) := by rw [← hW0]; exact heap_new _ _ (by simp)
  have hBW : Below w.heap.size w W0 := by rw [← hW0]; exact (((Below.refl _ w).alloc (Nat.le_refl _) _).alloc (by simp) _).alloc (by simp; omega) _
  have hst := back2C_stops 5 (by omega) (w.heap.size + 1 + 1) w.heap.size a l cap W0 hbS (by omega) hlw hMne hL
  have HHX := Lib.hid hx
  have HHL := Lib.hid hl
  have HW0 := Lib.hid hW0
  clear hW0 hl hx hlw hMne hbS
  refine callsIn_of_wp_marks Tryd.func78 rfl trivial ?_ rfl
  simp only [Tryd.ntmps78, List.size_toArray, List.length_cons, List.length_nil, Nat.reduceAdd, Nat.reduceSub, Array.replicate_succ, Array.replicate_zero, List.push_toArray, List.append_toArray, List.nil_append, List.cons_append]
  gi_wp2_with (refine ⟨trivial, ?_⟩; gi_at_call 102; refine (callsIn_wide.2 (backward2_any a l.length cap _)).mono ?_; rintro e w' ⟨rfl, rfl⟩)
  rw [HW0.out]
  clear hmm
  refine wpIn_rangeFunc_ownH (n := 6) rfl (by omega) (gf := 115) (lb := #[.pointer (some ⟨w.heap.size + 1 + 1, 0, none⟩)]) rfl trivial (enters_of Tryd.func115 (by kernel_rfl) rfl)
    hst KpM.trans (KpM.put (Nat.le_refl _)) (Below.refl _ _) (fun _ => rfl)
    (fun pre W => (∃ es clk, W.heap[w.heap.size]? = some (mapO k2 es clk) ∧ ∀ y, getE es y = lastP pre y) ∧ W.heap[w.heap.size + 1]? = some (.cells #[.map (some w.heap.size)] 145 (0, 0)) ∧ Below w.heap.size w W ∧ w.heap.size + 3 ≤ W.heap.size)
    (fun _ _ _ => False)
    (fun s A B row hs hg hr => by
      obtain ⟨⟨es, clk, h1, h2⟩, h3, h4, h5⟩ := hs
      have hn : ∀ k, k < w.heap.size + 3 → some k ≠ row := fun k hk e => by have := (hr k e.symm).1; omega
      exact ⟨⟨es, clk, (hg.block _ (by omega) (hn _ (by omega))).trans h1, h2⟩, (hg.block _ (by omega) (hn _ (by omega))).trans h3, h4.grown hg h4.size (fun k e => by have := (hr k e).1; omega), by have := hg.size; omega⟩)
    (fun _ _ _ _ _ hs _ _ => hs)
    ⟨⟨[], 0, hbM, fun y => rfl⟩, hbB, hBW, by omega⟩
    (fun y a' W => ∃ Bx, w.heap.size + 3 ≤ Bx ∧ W.heap[Bx]? = some (.cells #[.int .i64 y.2.1, .int .i64 y.2.2] 112 (0, 0)) ∧ a' = { tmps := #[.slice a l.length cap, .slice b x.length capx, undef, undef, .slice none 0 0, .slice none 0 0, .pointer (some ⟨w.heap.size + 1, 0, none⟩), .int .i64 y.1, .pointer (some ⟨Bx, 0, none⟩), .map (some w.heap.size), .slice a l.length cap, .func (.func 115) #[] #[.pointer (some ⟨w.heap.size + 1 + 1, 0, none⟩)], .int .i64 y.1, k2 y.2, undef, undef, undef, undef, undef, undef, undef, undef, undef], defers := [] })
    (fun y a' _ X Y row hs hg hr => by obtain ⟨Bx, h1, h2, h3⟩ := hs; exact ⟨Bx, h1, cells_own Bx _ _ () X Y row h2 hg (fun r e => (hr r e).2), h3⟩)
    ?assign ?body ?done ?stop
  case assign =>
    rintro lp pre y W K ⟨⟨es, clk, h1, h2⟩, h3, h4, h5⟩ hK
    gi_wp2
    exact hK _ _ ((KeepsOthers.alloc _ _).from _) (KpM.of_below ((Below.refl _ W).alloc (by omega) _)) ⟨⟨es, clk, heap_old h1 _, h2⟩, heap_old h3 _, h4.alloc h4.size _, by simp; omega⟩ ⟨W.heap.size, by omega, World.alloc_heap_new W _, rfl⟩
  case body =>
    rintro lp pre y a' W hl ⟨r, hr⟩ ⟨⟨es, clk, h1, h2⟩, h3, h4, h5⟩ ⟨Bx, hBx, bX, rfl⟩ hlt
    have c1 : W.cell? ⟨w.heap.size + 1, 0, none⟩ = some (.map (some w.heap.size)) := by rw [cell_of h3]; rfl
    have x0 : W.cell? ⟨Bx, 0, none⟩ = some (.int .i64 y.2.1) := by rw [cell_of bX]; rfl
    have x1 : W.cell? ⟨Bx, 1, none⟩ = some (.int .i64 y.2.2) := by rw [cell_of bX]; rfl
    have hup := update_any key2 W w.heap.size es clk h1 y.2 y.1
    obtain ⟨e1, e2, e3, e4⟩ := set_map (o' := mapO k2 (updE es clk y.2 y.1) (clkE es clk y.2)) h1 h4 (Nat.le_refl _)
    have HE := Lib.hid (And.intro e1 (And.intro e2 (And.intro e3 e4)))
    obtain ⟨W', hW'⟩ : ∃ W', ({ W with heap := W.heap.setIfInBounds w.heap.size (mapO k2 (updE es clk y.2 y.1) (clkE es clk y.2)) } : World) = W' := ⟨_, rfl⟩
    rw [hW'] at hup HE
    clear hW' e1 e2 e3 e4
    gi_wp2
    obtain ⟨e1, e2, e3, e4⟩ := HE.out
    exact ⟨⟨by omega, fun k o hk ho _ => (e2 k (by omega)).trans ho⟩, fun k _ hn => e2 k hn, ⟨_, _, e1, fun z => by rw [getE_upd, h2, lastP_snoc]⟩, (e2 _ (by omega)).trans h3, e3, by omega⟩
  case done =>
    rintro D ys W hD rfl ⟨⟨es, clk, h1, h2⟩, h3, h4, h5⟩ hK
    have h2' : ∀ y, yieldE es y = fidx l y := fun y => by
      unfold yieldE
      rw [h2, lastP_bk2 l l.length (Nat.le_refl _), Nat.sub_self, restF_0]
    have hBl : Below w.heap.size w W := h4
    have HLK : Hid (∀ (c : Option Addr) (z : List (Int × Int)) (zc : Nat), PairsIn w c z zc → z.length ≤ 1000000 → ∀ X, Below W.heap.size W X → Calls Tryd.prog 103 #[.map (some w.heap.size), .slice c z.length zc] X fun e X' => ∃ v, e = .returned v ∧ IsInts (z.map (fidx l)) v X' ∧ Below X.heap.size X X') := Lib.hid fun c z zc hz hzl X hC => by
      refine (lookUp2_any w.heap.size clk es c z zc X (heap_below h1 hC) ((hz.below hBl).below hC) hzl).mono ?_
      rintro e X' ⟨g, rfl, hg, hrow, hb⟩
      rw [show z.map (yieldE es) = z.map (fidx l) from List.map_congr_left (fun y _ => h2' y)] at hrow ⊢
      exact ⟨_, rfl, ⟨g, rfl, ints_row hrow (by simp; exact hzl)⟩, hb⟩
    have HCB : Hid (∀ X, Below W.heap.size W X → X.cell? ⟨w.heap.size + 1, 0, none⟩ = some (.map (some w.heap.size))) := Lib.hid fun X hX => by rw [cell_of (heap_below h3 hX)]; rfl
    have HD := Lib.hid (And.intro hD hK)
    have HBL := Lib.hid hBl
    clear h1 h2 h3 h4 h5 h2' hst hbM hbB hBW hD hK hBl
    gi_wp2
    refine wpIn_wide.2 ?_
    refine wp_region_loose
      [IsV (.map (some w.heap.size)), IsV (.slice a l.length cap), IsInts (l.map (fidx l)), IsV (.map (some w.heap.size)), IsV (.slice b x.length capx), IsInts (x.map (fidx l)), IsInts (l.map (fidx l)), IsInts (x.map (fidx l))]
      [⟨17, [], [6]⟩, ⟨18, [], [0]⟩, ⟨19, [(0, 17), (1, 18)], []⟩, ⟨20, [], [6]⟩, ⟨21, [], [1]⟩, ⟨22, [(3, 20), (4, 21)], []⟩, ⟨4, [(2, 19)], []⟩, ⟨5, [(5, 22)], []⟩]
      (fun X => Below W.heap.size W X) (fun X X' => Below X.heap.size X X') (by kernel_rfl) (by kernel_rfl) rfl rfl (Below.refl _ W).drew ?_
      ⟨?_, ?_, ?_, ?_, ?_, ?_, ?_, ?_, trivial⟩ ?_
    · repeat (first | (intro _ h; cases h; done) | refine List.forall_mem_cons.2 ⟨stable_V _ _, ?_⟩ | refine List.forall_mem_cons.2 ⟨stable_ints _, ?_⟩)
    · intro A W hC hd hx
      have hk : ∀ v, A.eval (.const v) = v := fun _ => rfl
      have hy0 : A.eval (.tmp 6) = .pointer (some ⟨w.heap.size + 1, 0, none⟩) := hx 6 (by simp)
      have c1 := HCB.out W hC
      clear hd
      generalize A.eval = ρ at hk hy0 ⊢
      simp [go_sem, looseUpon, factOf, hk, hy0, c1]
      exact ⟨hC, Below.refl _ _⟩
    · intro A W hC hd hx
      have hk : ∀ v, A.eval (.const v) = v := fun _ => rfl
      have hy0 : A.eval (.tmp 0) = .slice a l.length cap := hx 0 (by simp)
      clear hd
      generalize A.eval = ρ at hk hy0 ⊢
      simp [go_sem, looseUpon, factOf, hk, hy0]
      exact ⟨hC, Below.refl _ _⟩
    · intro A W hC hd hx
      simp [factOf] at hd
      refine ⟨fun g hg => (by cases hg), ?_⟩
      refine loose_call rfl Tryd.func103 (by kernel_rfl) (by kernel_rfl) ?_
      simp only [List.map_toArray, List.map_cons, List.map_nil, hd]
      refine (HLK.out a l cap HHL.out hL W hC).mono ?_
      rintro e' W' ⟨v, rfl, h3, h4⟩
      exact ⟨_, rfl, h3, hC.trans (h4.mono hC.size), h4⟩
    · intro A W hC hd hx
      have hk : ∀ v, A.eval (.const v) = v := fun _ => rfl
      have hy0 : A.eval (.tmp 6) = .pointer (some ⟨w.heap.size + 1, 0, none⟩) := hx 6 (by simp)
      have c1 := HCB.out W hC
      clear hd
      generalize A.eval = ρ at hk hy0 ⊢
      simp [go_sem, looseUpon, factOf, hk, hy0, c1]
      exact ⟨hC, Below.refl _ _⟩
    · intro A W hC hd hx
      have hk : ∀ v, A.eval (.const v) = v := fun _ => rfl
      have hy0 : A.eval (.tmp 1) = .slice b x.length capx := hx 1 (by simp)
      clear hd
      generalize A.eval = ρ at hk hy0 ⊢
      simp [go_sem, looseUpon, factOf, hk, hy0]
      exact ⟨hC, Below.refl _ _⟩
    · intro A W hC hd hx
      simp [factOf] at hd
      refine ⟨fun g hg => (by cases hg), ?_⟩
      refine loose_call rfl Tryd.func103 (by kernel_rfl) (by kernel_rfl) ?_
      simp only [List.map_toArray, List.map_cons, List.map_nil, hd]
      refine (HLK.out b x capx HHX.out hX W hC).mono ?_
      rintro e' W' ⟨v, rfl, h3, h4⟩
      exact ⟨_, rfl, h3, hC.trans (h4.mono hC.size), h4⟩
    · intro A W hC hd hx
      simp [factOf] at hd
      refine ⟨fun g hg => (by cases hg), ?_⟩
      generalize A.eval = ρ at hd ⊢
      simp [go_sem, looseUpon, factOf]
      exact ⟨hd, hC, Below.refl _ _⟩
    · intro A W hC hd hx
      simp [factOf] at hd
      refine ⟨fun g hg => (by cases hg), ?_⟩
      generalize A.eval = ρ at hd ⊢
      simp [go_sem, looseUpon, factOf]
      exact ⟨hd, hC, Below.refl _ _⟩
    · intro X hC
      simp only [ends]
      rintro _ rfl _ rfl _ ⟨g1, rfl, i1⟩ _ rfl _ rfl _ ⟨g2, rfl, i2⟩ _ ⟨g3, rfl, i3⟩ _ ⟨g4, rfl, i4⟩
      simp only [putAll, List.zip_cons_cons, List.zip_nil_left, List.foldl_cons, List.foldl_nil, Act.put, List.setIfInBounds_toArray, List.set_cons_succ, List.set_cons_zero]
      have hK2 : X.heap[D]? = some (.deferred (some [])) := heap_below HD.out.2 hC
      gi_wp2
      refine ⟨by simp, .inl ⟨_, _, rfl, run_takeDeferred hK2, ?_⟩⟩
      refine ⟨.tuple #[.slice (some ⟨g3, 0, none⟩) (l.map (fidx l)).length (l.map (fidx l)).length, .slice (some ⟨g4, 0, none⟩) (x.map (fidx l)).length (x.map (fidx l)).length], by simp [results, Tryd.f78, go_sem], g3, g4, rfl, ints_put i3 hK2, ints_put i4 hK2, ?_⟩
      exact ((HBL.out).trans (hC.mono HBL.out.size)).trans (belowK_b (w := w) (Nat.le_refl _) X D _ _ (by have := HD.out.1; omega) hK2 rfl rfl)
  case stop =>
    rintro D c pre W _ _ h _
    exact h.elim
end Go.Proofs.YtdedfjkenbaebaaDoor

/- pairs of package patch. -/
namespace Go.Proofs.YtdedfjkenbaebaaDoor
open Go.RowKit
set_option linter.unusedVariables false
set_option linter.unusedSimpArgs false

abbrev rowP (R : Array Value) : Obj := .cells R 112 (0, 0)
def zeroPair : Array Value := #[.int .i64 0, .int .i64 0]
theorem make_pairs (k : Nat) (hk : k ≤ 1000000) (w : World) : (Instr.makeSlice 113 (.int .i64 (k : Int)) (.int .i64 (k : Int))).run Tryd.prog w = .ok (.slice (some ⟨w.heap.size, 0, none⟩) k k) (w.alloc (rowP (madeCells zeroPair (k * 2)))) := by
  have hi : ∃ i, Tryd.prog.info? 112 = some i ∧ i.zero = some (.agg zeroPair) ∧ i.size = 2 ∧ i.bytes = 16 := by
    have h : (Tryd.prog.info? 112).map (fun i => (i.zero, i.size, i.bytes)) = some (some (.agg zeroPair), 2, 16) := by kernel_rfl
    obtain ⟨i, hi, he⟩ := Option.map_eq_some_iff.1 h
    simp only [Prod.mk.injEq] at he
    exact ⟨i, hi, he.1, he.2.1, he.2.2⟩
  obtain ⟨i, hi, hz, hs, hb⟩ := hi
  rw [run_make w 113 112 i _ Tryd.underlying113 hi hz .i64 .i64 k k (by omega) (by omega) (by rw [hb]; omega) (by omega)]
  rw [hs, Int.toNat_natCast]
  rfl
theorem made_size (z : Array Value) (n : Nat) : (madeCells z n).size = n := by unfold madeCells; simp

/-- The first pairs lie in the row. -/
def RowHas2 (R : Array Value) (ps : List (Int × Int)) : Prop := ∀ i p, ps[i]? = some p → R[i * 2]? = some (.int .i64 p.1) ∧ R[i * 2 + 1]? = some (.int .i64 p.2)
abbrev put2A (R : Array Value) (i : Nat) (p : Int × Int) : Array Value := (R.setIfInBounds (i * 2) (.int .i64 p.1)).setIfInBounds (i * 2 + 1) (.int .i64 p.2)
theorem rowHas2_snoc {R : Array Value} {ps : List (Int × Int)} {p : Int × Int} (h : RowHas2 R ps) (hs : ps.length * 2 + 2 ≤ R.size) : RowHas2 (put2A R ps.length p) (ps ++ [p]) := by
  intro i q hi
  have hil : i < (ps ++ [p]).length := (List.getElem?_eq_some_iff.1 hi).1
  rw [List.length_append, List.length_singleton] at hil
  unfold put2A
  by_cases e : i = ps.length
  · subst e
    simp only [List.getElem?_append_right (Nat.le_refl _), Nat.sub_self, List.getElem?_cons_zero, Option.some.injEq] at hi
    subst hi
    refine ⟨?_, ?_⟩
    · rw [Array.getElem?_setIfInBounds, if_neg (by omega), Array.getElem?_setIfInBounds, if_pos rfl]
      simp; omega
    · rw [Array.getElem?_setIfInBounds, if_pos rfl]
      simp; omega
  · rw [List.getElem?_append_left (by omega)] at hi
    obtain ⟨h1, h2⟩ := h i q hi
    refine ⟨?_, ?_⟩
    · rw [Array.getElem?_setIfInBounds, if_neg (by omega), Array.getElem?_setIfInBounds, if_neg (by omega), h1]
    · rw [Array.getElem?_setIfInBounds, if_neg (by omega), Array.getElem?_setIfInBounds, if_neg (by omega), h2]
/-- New pairs. -/
def PairsPost (ps : List (Int × Int)) (w : World) (e : Ending) (w' : World) : Prop :=
  ∃ g, e = .returned (.slice (some ⟨g, 0, none⟩) ps.length ps.length) ∧ PairsIn w' (some ⟨g, 0, none⟩) ps ps.length ∧ Below w.heap.size w w'
theorem pairsL_take {t : Nat} {l : List Int} {k : Nat} (h : k < l.length - t) : (pairsL t l).take (k + 1) = (pairsL t l).take k ++ [(l[k]?.getD 0, l[k + t]?.getD 0)] := by
  have h1 : (pairsL t l)[k]? = some (l[k]?.getD 0, l[k + t]?.getD 0) := by
    unfold pairsL
    rw [List.getElem?_map, List.getElem?_range h]
    rfl
  rw [List.take_add_one, h1]
  rfl

set_option maxRecDepth 100000 in
set_option maxHeartbeats 4000000 in
theorem pairs_any (a : Option Addr) (l : List Int) (cap t : Nat) (w : World) (hb : IntsIn w a l cap) (ht : t ≤ l.length) (hL : l.length ≤ 1000000) :
    Calls Tryd.prog 79 #[.slice a l.length cap, .int .i64 (t : Int)] w (PairsPost (pairsL t l) w) := by
  have HB := Lib.hid hb
  obtain ⟨N, hN⟩ : ∃ N, N = l.length - t := ⟨_, rfl⟩
  have hpost : Hid (∀ g W, PairsIn W (some ⟨g, 0, none⟩) (pairsL t l) N → Below w.heap.size w W → PairsPost (pairsL t l) w (.returned (.slice (some ⟨g, 0, none⟩) N N)) W) := Lib.hid fun g W h1 h3 => ⟨g, by rw [pairsL_length, ← hN], by rw [pairsL_length, ← hN]; exact h1, h3⟩
  obtain ⟨POST, hP⟩ : ∃ P, P = PairsPost (pairsL t l) w := ⟨_, rfl⟩
  rw [← hP] at hpost ⊢
  obtain ⟨L, hLe⟩ : ∃ L, L = l.length := ⟨_, rfl⟩
  have HL := Lib.hid hLe
  have HN := Lib.hid hN
  have HNL : L = N + t := by omega
  have hmk := fun w => make_pairs N (by omega) w
  have hsub : (L : Int) - (t : Int) = (N : Int) := by omega
  rw [← hLe] at hL ⊢
  clear hb hLe hP hN ht
  obtain ⟨s, hs⟩ : ∃ s : HeldW w [(w.heap.size, rowP (madeCells zeroPair (N * 2)))], w.alloc (rowP (madeCells zeroPair (N * 2))) = s.w := start1 w _
  have HS := Lib.hid hs
  clear hs
  have hLb : L ≤ 9223372036854775807 := by omega
  go_enter Tryd.func79, Tryd.ntmps79
  go_wp2
  rw [HS.out]
  clear hmk hsub
  go_loopw [14] (fun v wr => ∃ k : Nat, k ≤ N ∧ v = .int .i64 k ∧ ∃ R : Array Value, R.size = N * 2 ∧ Hid (RowHas2 R ((pairsL t l).take k)) ∧ ∃ s : HeldW w [(w.heap.size, rowP R)], wr = s.w) (fun v _ => N - (intOf v).toNat)
  case atStart => exact ⟨0, by omega, rfl, _, made_size _ _, Lib.hid (fun i p hi => by simp at hi), s, rfl⟩
  case round =>
    clear s HS
    obtain ⟨k, hk, rfl, R, hsz, hf, s, rfl⟩ := hrel
    by_cases hlt : k < N
    · obtain ⟨bb, oo, rfl, hc⟩ := HB.out.cells (by rw [← HL.out]; omega)
      have hcs : ∀ (s : HeldW w [(w.heap.size, rowP R)]) (i : Nat), i < L → s.w.cell? ⟨bb, oo + i, none⟩ = some (.int .i64 (l[i]?.getD 0)) := fun s i hi => by
        have := hc i (by rw [← HL.out]; exact hi)
        exact (s.below.cell (p := ⟨bb, oo + i, none⟩) (World.block_lt_of_cell? _ _ this)).trans this
      have d0 := fun s => hcs s k (by omega)
      have d1 := fun s => hcs s (k + t) (by omega)
      have hst := rowHas2_snoc (p := (l[k]?.getD 0, l[k + t]?.getD 0)) hf.out (by rw [List.length_take, pairsL_length, ← HL.out, hsz]; omega)
      rw [← pairsL_take (by rw [← HL.out]; omega)] at hst
      rw [show ((pairsL t l).take k).length = k by rw [List.length_take, pairsL_length, ← HL.out]; omega] at hst
      generalize l[k]?.getD 0 = x at d0 hst
      generalize l[k + t]?.getD 0 = y at d1 hst
      have HST := Lib.hid hst
      have HC : Hid (∀ s : HeldW w [(w.heap.size, rowP R)], (∃ u, s.w.cell? ⟨w.heap.size, k * 2, none⟩ = some u) ∧ (∃ u, s.w.cell? ⟨w.heap.size, k * 2 + 1, none⟩ = some u) ∧ ∀ i, s.w.frozen? ⟨w.heap.size, i, none⟩ = false) := Lib.hid fun s =>
        ⟨⟨R[k * 2]'(by omega), by rw [cell_of (s.blocks (w.heap.size, rowP R) List.mem_cons_self)]; exact Array.getElem?_eq_getElem (by omega)⟩, ⟨R[k * 2 + 1]'(by omega), by rw [cell_of (s.blocks (w.heap.size, rowP R) List.mem_cons_self)]; exact Array.getElem?_eq_getElem (by omega)⟩, fun i => free_of (s.blocks (w.heap.size, rowP R) List.mem_cons_self) i⟩
      have HSS : Hid (∀ s : HeldW w [(w.heap.size, rowP R)], ∃ s' : HeldW w [(w.heap.size, rowP (put2A R k (x, y)))], (s.w.setCell ⟨w.heap.size, k * 2, none⟩ (.int .i64 x)).setCell ⟨w.heap.size, k * 2 + 1, none⟩ (.int .i64 y) = s'.w) := Lib.hid fun s =>
        ⟨HeldW.store (i := k * 2 + 1) (v := .int .i64 y) (HeldW.store (i := k * 2) (v := .int .i64 x) (cs' := R.setIfInBounds (k * 2) (.int .i64 x)) s (by omega) (by simp) rfl) (by omega) (by simp) rfl, rfl⟩
      clear hst hc hcs hf
      go_wp2
      refine wp_region_class_tail 14 w _ (by kernel_rfl) (by kernel_rfl) s.below s.blocks (fun hne => ?_)
      simp only [List.take_succ_cons, List.take_zero, List.drop_succ_cons, List.drop_zero]
      repeat (go_big_quiet_step (fail))
      refine wpQuiet_nil ?_
      rintro _ ⟨s2, rfl⟩
      clear hne d0 d1 s
      obtain ⟨⟨u1, c1⟩, ⟨u2, c2⟩, fr⟩ := HC.out s2
      go_wp2
      obtain ⟨s', hs'⟩ := HSS.out s2
      rw [hs']
      go_roundw
      case rel => exact ⟨k + 1, by omega, by go_num, _, by simp [put2A, hsz], HST, s', rfl⟩
      case measure => simp [intOf]; omega
    · obtain rfl : k = N := by omega
      have hfin := Lib.hid (hpost.out w.heap.size s.w ⟨by rw [pairsL_length, ← HL.out]; omega, by omega, fun hp => ⟨w.heap.size, 0, rfl, fun i p hi => by
        have h1 := hf.out
        rw [List.take_of_length_le (by rw [pairsL_length, ← HL.out]; omega)] at h1
        obtain ⟨h2, h3⟩ := h1 i p hi
        rw [Nat.zero_add, cell_of (s.blocks (w.heap.size, rowP R) List.mem_cons_self), cell_of (s.blocks (w.heap.size, rowP R) List.mem_cons_self)]
        exact ⟨h2, h3⟩⟩⟩ s.below)
      clear hf
      go_wp2
      exact hfin.out
end Go.Proofs.YtdedfjkenbaebaaDoor
