import Derived.Great.BuildSlice
import Derived.Test.YtojipgeclofjmaaE09a23
import Derived.Test.YtojipgeclofjmaaE09a12
import Derived.Test.YtojipgeclofjmaaE09a11
import Derived.Test.YtojipgeclofjmaaE09a9
import Derived.BigQuiet
import Derived.Test.YtojipgeclofjmaaE09a19
/- Small and Of of the reference of package tidy. -/
namespace Go.Proofs.Ytojipgeclofjmaa
open Go.RowKit Go.Proofs.Ytojipgeclofjmaa.Plain01
set_option linter.unusedVariables false
set_option linter.unusedSimpArgs false

/-- What Small asks. -/
def SmallD (o n : Int) (cs : List Cmd) : Prop := (FewD cs ∧ n ≤ 1000) ∧ (faultOf o n cs).1 = 0
noncomputable instance (o n : Int) (cs : List Cmd) : Decidable (SmallD o n cs) := by unfold SmallD; infer_instance
set_option maxRecDepth 100000 in
set_option maxHeartbeats 4000000 in
theorem rsmall9_any (D : Array Value) (o n : Int) (x y : List Int) (ca : Option Addr) (cs : List Cmd) (ccap : Nat) (hD : DeltaOf D o n x y (.slice ca cs.length ccap)) (w : World) (h : CmdsIn w ca cs ccap) :
    Calls Try.prog 9 #[.agg D] w (Gives (.bool (decide (SmallD o n cs))) w) := by
  obtain ⟨S, hS⟩ := start1 w (deltaO D)
  have hc := few_any D o n x y ca cs ccap hD S.w (h.W S)
  have HV := Lib.hid (fun s : HeldW w [(w.heap.size, deltaO D)] => rdvalid_any D o n x y ca cs ccap hD s.w (h.W s))
  have HG := Lib.hid (fun s : HeldW w [(w.heap.size, deltaO D)] => s.blocks (w.heap.size, deltaO D) (by simp))
  have HC := Lib.hid (fun s : HeldW w [(w.heap.size, deltaO D)] => (cell_of (s.blocks (w.heap.size, deltaO D) (by simp)) 1).trans hD.c1)
  have hinf := infoDelta hD
  have hg : (w.alloc (deltaO D)).heap[w.heap.size]? = some (deltaO D) := heap_new w _ rfl
  have HS := Lib.hid hS
  obtain ⟨POST, hP⟩ : ∃ P : Ending → World → Prop, P = Gives (.bool (decide (SmallD o n cs))) w := ⟨_, rfl⟩
  have HQ : Hid (∀ (s : HeldW w [(w.heap.size, deltaO D)]) (r : Bool), (r = true ↔ SmallD o n cs) → POST (.returned (.bool r)) s.w) := Lib.hid fun s r hr => by
    rw [hP, show decide (SmallD o n cs) = r by cases r <;> simp at hr ⊢ <;> exact hr]; exact ⟨rfl, s.below⟩
  rw [← hP]
  unfold SmallD at HQ
  by_cases h1 : FewD cs
  · rw [decide_eq_true h1] at hc
    by_cases h2 : n ≤ 1000
    · have HQ2 : Hid (∀ (s : HeldW w [(w.heap.size, deltaO D)]), POST (.returned (.bool (decide ((faultOf o n cs).1 = 0)))) s.w) := Lib.hid fun s => HQ.out s _ (by simp [h1, h2])
      generalize FewD cs = F1 at *
      generalize decide ((faultOf o n cs).1 = 0) = F2 at *
      have e2 : decide (n ≤ 1000) = true := decide_eq_true h2
      clear hD h hP hS HQ h1 h2
      go_enter Try.func9, Try.ntmps9
      go_wp2_with (refine wpList_load_row rfl 25 (.tmp 1) rfl w.heap.size rfl 25 _ (0, 0) _ hg Try.underlying25 rfl hinf ?_)
      rw [HS.out]
      clear hg
      refine (HeldW.call hc).mono ?_
      rintro e _ ⟨rfl, s2, rfl⟩
      have hg := HG.out s2
      have c1 := HC.out s2
      go_wp2_with (refine wpList_load_rowG rfl 25 (.tmp 1) rfl (some 11) rfl w.heap.size rfl 25 _ (0, 0) _ hg Try.underlying25 rfl hinf ?_)
      refine (HeldW.call (HV.out s2)).mono ?_
      rintro e _ ⟨rfl, s3, rfl⟩
      have HR := Lib.hid (HQ2.out s3)
      clear hg hc c1
      go_wp2
      exact HR.out
    · have HQ2 : Hid (∀ (s : HeldW w [(w.heap.size, deltaO D)]), POST (.returned (.bool false)) s.w) := Lib.hid fun s => HQ.out s false (by simp [h2])
      generalize FewD cs = F1 at *
      have e2 : decide (n ≤ 1000) = false := decide_eq_false h2
      clear hD h hP hS HQ h1 h2 HV
      go_enter Try.func9, Try.ntmps9
      go_wp2_with (refine wpList_load_row rfl 25 (.tmp 1) rfl w.heap.size rfl 25 _ (0, 0) _ hg Try.underlying25 rfl hinf ?_)
      rw [HS.out]
      clear hg
      refine (HeldW.call hc).mono ?_
      rintro e _ ⟨rfl, s2, rfl⟩
      have c1 := HC.out s2
      have HR := Lib.hid (HQ2.out s2)
      clear hc
      go_wp2
      exact HR.out
  · rw [decide_eq_false h1] at hc
    have HQ2 : Hid (∀ (s : HeldW w [(w.heap.size, deltaO D)]), POST (.returned (.bool false)) s.w) := Lib.hid fun s => HQ.out s false (by simp [h1])
    generalize FewD cs = F1 at *
    clear hD h hP hS HQ h1 HV
    go_enter Try.func9, Try.ntmps9
    go_wp2_with (refine wpList_load_row rfl 25 (.tmp 1) rfl w.heap.size rfl 25 _ (0, 0) _ hg Try.underlying25 rfl hinf ?_)
    rw [HS.out]
    clear hg
    refine (HeldW.call hc).mono ?_
    rintro e _ ⟨rfl, s2, rfl⟩
    have HR := Lib.hid (HQ2.out s2)
    clear hc
    go_wp2
    exact HR.out

abbrev rorgO (b : Bool) (f v : Int) : Obj := .cells (orgA b f v) 32 (0, 0)
theorem rorg_size (b : Bool) (f v : Int) : (Try.prog.info? 32).map (·.size) = some (orgA b f v).size := by
  show _ = some 3
  kernel_rfl
set_option maxRecDepth 100000 in
set_option maxHeartbeats 8000000 in
theorem rof9_any (D : Array Value) (o : Int) (n : Nat) (x y : List Int) (ca : Option Addr) (cs : List Cmd) (ccap : Nat) (hD : DeltaOf D o n x y (.slice ca cs.length ccap)) (off : Nat) (c : Cmd) (fi : Nat) (w : World) (h : CmdsIn w ca cs ccap) (hL : cs.length ≤ 1000000) (hv : ValidD o n cs) (hf : findOf cs (off : Int) = fi) (hci : cs[fi]? = some c) (hh : c.has off) :
    Calls Try.prog 12 #[.agg D, .int .i64 (off : Int)] w (Gives (.agg (orgOf c ((off : Int) - c.t))) w) := by
  obtain ⟨S, hS⟩ := start2 w (deltaO D) (rorgO false 0 0)
  have hnb : (n : Int) ≤ 4611686018427387903 := by have := hv.lens; unfold LensBad at this; omega
  have hcov : ∀ c ∈ cs, okE c.tgt = true := fun c hc => (good_ok (single_good (hv.all c hc) hnb)).1
  have HFIND := Lib.hid (fun (W : World) (hW : Below w.heap.size w W) => by
    have := rfind_any D o n x y ca cs ccap hD (off : Int) W (h.below hW) hcov
    rw [hf] at this
    exact this)
  have HLD := Lib.hid (fun (W : World) (hW : W.heap[w.heap.size]? = some (deltaO D)) => load_delta hD hW)
  have HD66 := Lib.hid (fun (W : World) (hW : W.heap[w.heap.size]? = some (deltaO D)) => (cell_of hW 66).trans hD.c66)
  have hcm := List.mem_of_getElem? hci
  have hgc := single_good (hv.all c hcm) hnb
  have hkk := (good_ok hgc).2.1
  have hsb := (single_ok (hv.all c hcm)).2.1
  unfold Cmd.has at hh
  obtain ⟨i, hi⟩ : ∃ i : Nat, (off : Int) - c.t = i := ⟨((off : Int) - c.t).toNat, by omega⟩
  rw [hi]
  have hfl : fi < cs.length := (List.getElem?_eq_some_iff.1 hci).1
  have hcap1 := h.len
  have hcap2 := h.capb
  have HB := Lib.hid (h.ok c hcm).b
  obtain ⟨b, oo, rfl, x0, x1, x2, x3, x4⟩ := h.at hci
  obtain ⟨CC, hCC⟩ : ∃ CC, CC = cs.length := ⟨_, rfl⟩
  rw [← hCC] at hfl hcap1 hL HD66
  have ht0 : 0 ≤ c.t := by omega
  have ht1 : c.t ≤ 4611686018427387903 := by omega
  have ho1 : off ≤ 4611686018427387903 := by omega
  have HX : Hid (∀ W, Below w.heap.size w W → W.cell? ⟨b, oo + fi * 5, none⟩ = some (.int .i64 c.k) ∧ W.cell? ⟨b, oo + fi * 5 + 1, none⟩ = some (.int .i64 c.t) ∧ W.cell? ⟨b, oo + fi * 5 + 2, none⟩ = some (.int .i64 c.f) ∧ W.cell? ⟨b, oo + fi * 5 + 3, none⟩ = some (.int .i64 c.n) ∧ W.cell? ⟨b, oo + fi * 5 + 4, none⟩ = some (.slice c.a c.l.length c.cap)) := Lib.hid fun W hb =>
    ⟨(hb.cell (World.block_lt_of_cell? _ _ x0)).trans x0, (hb.cell (World.block_lt_of_cell? _ _ x1)).trans x1, (hb.cell (World.block_lt_of_cell? _ _ x2)).trans x2, (hb.cell (World.block_lt_of_cell? _ _ x3)).trans x3, (hb.cell (World.block_lt_of_cell? _ _ x4)).trans x4⟩
  have HS := Lib.hid hS
  have HK := Lib.hid (And.intro hkk (And.intro hgc (And.intro hi (And.intro hh hsb))))
  have HGB := Lib.hid (fun (W : World) (hW : Below S.w.heap.size S.w W) => S.below.trans (hW.mono S.below.size))
  have HGH := Lib.hid (fun (W : World) (hW : Below S.w.heap.size S.w W) => heap_below (S.blocks (w.heap.size, deltaO D) (by simp)) hW)
  have HFC := Lib.hid hfl
  clear hS hD h hv hf hcov hci hCC hcm hgc hsb hh hnb hi hkk x0 x1 x2 x3 x4 hfl
  go_enter Try.func12, Try.ntmps12
  go_wp2_with fail
  rw [HS.out]
  refine wp_region_looseT 8
    [IsV (.pointer (some ⟨w.heap.size, 66, none⟩)), IsV (.slice (some ⟨b, oo, none⟩) CC ccap), IsV (.agg D), IsV (.int .i64 (off : Int)), IsV (.int .i64 (fi : Int)), IsV (.pointer (some ⟨b, oo + fi * 5, none⟩)), IsV (cmdV c.k c.t c.f c.n (.slice c.a c.l.length c.cap)), IsBox5 S.w.heap.size]
    [⟨6, [], [2]⟩, ⟨7, [(0, 6)], []⟩, ⟨8, [], [2]⟩, ⟨9, [], [1]⟩, ⟨10, [(2, 8), (3, 9)], []⟩, ⟨11, [(1, 7), (4, 10)], []⟩, ⟨12, [(5, 11)], []⟩, ⟨5, [], []⟩]
    (fun W => Below S.w.heap.size S.w W) (fun W W' => Below W.heap.size W W') (by kernel_rfl) (by kernel_rfl) (by kernel_rfl) rfl rfl (Below.refl _ S.w).drew ?_
    ⟨?_, ?_, ?_, ?_, ?_, ?_, ?_, ?_, trivial⟩ ?_
  · repeat (first | (intro _ h; cases h; done) | refine List.forall_mem_cons.2 ⟨stable_V _ _, ?_⟩ | refine List.forall_mem_cons.2 ⟨stable_Box5 _, ?_⟩)
  · intro A W hC hd hx
    have hk : ∀ v, A.eval (.const v) = v := fun _ => rfl
    have hy0 : A.eval (.tmp 2) = .pointer (some ⟨w.heap.size, 0, none⟩) := hx 2 (by simp)
    clear hd
    generalize A.eval = ρ at hk hy0 ⊢
    simp [go_sem, looseUpon, factOf, hk, hy0]
    exact ⟨hC, Below.refl _ _⟩
  · intro A W hC hd hx
    have hk : ∀ v, A.eval (.const v) = v := fun _ => rfl
    have c0 := HD66.out W (HGH.out W hC)
    simp [factOf] at hd
    generalize A.eval = ρ at hd hk ⊢
    simp [go_sem, looseUpon, factOf, hd, hk, c0]
    exact ⟨hC, Below.refl _ _⟩
  · intro A W hC hd hx
    have hy0 : A.eval (.tmp 2) = .pointer (some ⟨w.heap.size, 0, none⟩) := hx 2 (by simp)
    have hld := HLD.out W (HGH.out W hC)
    refine ⟨fun g hg => (by cases hg), ?_⟩
    clear hd
    generalize A.eval = ρ at hy0 ⊢
    simp [execOp, hy0, hld, looseUpon, factOf]
    exact ⟨hC, Below.refl _ _⟩
  · intro A W hC hd hx
    have hk : ∀ v, A.eval (.const v) = v := fun _ => rfl
    have hy0 : A.eval (.tmp 1) = .int .i64 (off : Int) := hx 1 (by simp)
    clear hd
    generalize A.eval = ρ at hk hy0 ⊢
    simp [go_sem, looseUpon, factOf, hk, hy0]
    exact ⟨hC, Below.refl _ _⟩
  · intro A W hC hd hx
    simp [factOf] at hd
    obtain ⟨hd0, hd1⟩ := hd
    refine ⟨fun g hg => (by cases hg), ?_⟩
    refine loose_call rfl Try.func32 (by kernel_rfl) (by kernel_rfl) ?_
    simp only [List.map_toArray, List.map_cons, List.map_nil, hd0, hd1]
    refine (HFIND.out W (HGB.out W hC)).mono ?_
    rintro e' W' ⟨rfl, h4⟩
    exact ⟨_, rfl, rfl, hC.trans (h4.mono hC.size), h4⟩
  · intro A W hC hd hx
    have hk : ∀ v, A.eval (.const v) = v := fun _ => rfl
    have c0 := HFC.out
    simp [factOf] at hd
    generalize A.eval = ρ at hd hk ⊢
    simp [go_sem, looseUpon, factOf, hd, hk, c0]
    exact ⟨hC, Below.refl _ _⟩
  · intro A W hC hd hx
    have hk : ∀ v, A.eval (.const v) = v := fun _ => rfl
    have c0 := (HX.out W (HGB.out W hC)).1
    have c1 := (HX.out W (HGB.out W hC)).2.1
    have c2 := (HX.out W (HGB.out W hC)).2.2.1
    have c3 := (HX.out W (HGB.out W hC)).2.2.2.1
    have c4 := (HX.out W (HGB.out W hC)).2.2.2.2
    simp [factOf] at hd
    generalize A.eval = ρ at hd hk ⊢
    simp [go_sem, looseUpon, factOf, hd, hk, c0, c1, c2, c3, c4]
    exact ⟨hC, Below.refl _ _⟩
  · intro A W hC hd hx
    have hk : ∀ v, A.eval (.const v) = v := fun _ => rfl
    clear hd
    generalize A.eval = ρ at hk ⊢
    simp [go_sem, looseUpon, factOf, hk]
    exact ⟨⟨_, rfl, hC.size, World.alloc_heap_new _ _⟩, hC.alloc hC.size _, (Below.refl _ _).alloc (Nat.le_refl _) _⟩
  intro W hC
  simp only [ends]
  rintro _ rfl _ rfl _ rfl _ rfl _ rfl _ rfl _ rfl _ ⟨B, rfl, hB, hbz⟩
  simp only [putAll, List.zip_cons_cons, List.zip_nil_left, List.foldl_cons, List.foldl_nil, Act.put, List.setIfInBounds_toArray, List.set_cons_succ, List.set_cons_zero, List.drop_succ_cons, List.drop_zero]
  have hsl := (Array.getElem?_eq_some_iff.1 (S.blocks (w.heap.size + 1, rorgO false 0 0) (by simp))).1
  dsimp only at hsl
  obtain ⟨s2, h2⟩ : ∃ s2 : HeldW w [(B, cmdO c.k c.t c.f c.n (.slice c.a c.l.length c.cap)), (w.heap.size + 1, rorgO false 0 0)], W.setRow B #[.int .i64 c.k, .int .i64 c.t, .int .i64 c.f, .int .i64 c.n, .slice c.a c.l.length c.cap] = s2.w :=
    ⟨⟨_, below_setRow (HGB.out W hC) (by omega) _, List.forall_mem_cons.2 ⟨setRow_heap _ _ _ _ _ _ hbz, all1 ((setRow_other _ _ _ _ (show w.heap.size + 1 ≠ B by omega)).trans (heap_below (S.blocks (w.heap.size + 1, rorgO false 0 0) (by simp)) hC))⟩⟩, rfl⟩
  have H2 := Lib.hid h2
  have hinf : (Try.prog.info? 37).map (·.size) = some (#[.int .i64 c.k, .int .i64 c.t, .int .i64 c.f, .int .i64 c.n, .slice c.a c.l.length c.cap] : Array Value).size := by
    show _ = some 5
    kernel_rfl
  have hone : (#[.int .i64 c.k, .int .i64 c.t, .int .i64 c.f, .int .i64 c.n, .slice c.a c.l.length c.cap] : Array Value).all (·.oneCell') = true := by simp [Value.oneCell']
  have hsz : (#[.int .i64 0, .int .i64 0, .int .i64 0, .int .i64 0, .slice none 0 0] : Array Value).size = (#[.int .i64 c.k, .int .i64 c.t, .int .i64 c.f, .int .i64 c.n, .slice c.a c.l.length c.cap] : Array Value).size := rfl
  obtain ⟨d0, d1, d2, d3, d4⟩ := cmd_cells (s2.blocks (B, cmdO c.k c.t c.f c.n (.slice c.a c.l.length c.cap)) (by simp))
  have hst := s2.blocks (w.heap.size + 1, rorgO false 0 0) (by simp)
  dsimp only at hst
  obtain ⟨hkk, hgc, hi, hh, hsb⟩ := HK.out
  have hgf := hgc
  unfold GoodB Cmd.core at hgf
  simp only at hgf
  clear h2 hC hB hsl
  rcases hkk with hk | hk
  · have eo : orgOf c i = orgA true (c.f + i) 0 := by unfold orgOf; rw [if_pos hk]
    have EO := Lib.hid eo
    have e1 : (c.k == 1) = true := by rw [hk]; rfl
    have e32 : c.f + (off : Int) - c.t = c.f + (i : Int) := by omega
    have hb0 : 0 ≤ c.f := by omega
    have hb1 : c.f ≤ 4611686018427387903 := by omega
    have HBW := Lib.hid (show Below w.heap.size w (s2.w.setRow (w.heap.size + 1) (orgA true (c.f + i) 0)) from below_setRow s2.below (by omega) _)
    have HHP := Lib.hid (show (s2.w.setRow (w.heap.size + 1) (orgA true (c.f + i) 0)).heap[w.heap.size + 1]? = some (rorgO true (c.f + i) 0) from setRow_heap _ _ _ _ _ _ hst)
    have hsz2 := rorg_size true (c.f + i) 0
    have hone2 := org_one true (c.f + i) 0
    clear hgf hgc hi hh hsb hk eo
    refine wpList_store_rowTo rfl 37 (.tmp 5) (.tmp 12) rfl rfl B #[.int .i64 c.k, .int .i64 c.t, .int .i64 c.f, .int .i64 c.n, .slice c.a c.l.length c.cap] rfl rfl 37 #[.int .i64 0, .int .i64 0, .int .i64 0, .int .i64 0, .slice none 0 0] hbz hinf hsz hone ?_
    rw [H2.out]
    go_wp2_with (refine wpList_store_rowTo rfl 32 (.tmp 4) (.tmp 23) rfl rfl (w.heap.size + 1) (orgA true (c.f + i) 0) rfl rfl 32 (orgA false 0 0) hst hsz2 rfl hone2 ?_)
    refine bodyPost_ret (v := .agg (orgA true (c.f + i) 0)) ?_ rfl ⟨by rw [EO.out], HBW.out⟩
    exact results_cell_row Try.results12 _ _ (w.heap.size + 1) 32 _ (0, 0) _ rfl HHP.out Try.underlying32 rfl hsz2
  · have hil : i < c.l.length := by unfold Cmd.w wlen at hh; rw [if_neg (by omega)] at hh; omega
    obtain ⟨xb, hxb⟩ : ∃ xb, c.l[i]? = some xb := ⟨_, List.getElem?_eq_getElem hil⟩
    have eo : orgOf c i = orgA false 0 xb := by
      unfold orgOf
      rw [if_neg (by omega), Int.toNat_natCast, hxb]
      rfl
    have EO := Lib.hid eo
    obtain ⟨bA, oA, hca, hcA⟩ := HB.out.cells (by omega)
    have hcj := hcA i hil
    rw [hxb, Option.getD_some] at hcj
    have d5 : s2.w.cell? ⟨bA, oA + i, none⟩ = some (.int .u8 xb) := (s2.below.cell (World.block_lt_of_cell? _ _ hcj)).trans hcj
    have e1 : (c.k == 1) = false := by rw [hk]; rfl
    have e43 : (off : Int) - c.t = (i : Int) := hi
    have hcl := HB.out.len
    have hcc := HB.out.capb
    replace d4 : s2.w.cell? ⟨B, 4, none⟩ = some (.slice (some ⟨bA, oA, none⟩) c.l.length c.cap) := d4.trans (by rw [hca])
    have HBW := Lib.hid (show Below w.heap.size w (s2.w.setRow (w.heap.size + 1) (orgA false 0 xb)) from below_setRow s2.below (by omega) _)
    have HHP := Lib.hid (show (s2.w.setRow (w.heap.size + 1) (orgA false 0 xb)).heap[w.heap.size + 1]? = some (rorgO false 0 xb) from setRow_heap _ _ _ _ _ _ hst)
    have hsz2 := rorg_size false 0 xb
    have hone2 := org_one false 0 xb
    clear hgf hgc hi hh hsb hk eo hxb hcj hcA
    refine wpList_store_rowTo rfl 37 (.tmp 5) (.tmp 12) rfl rfl B #[.int .i64 c.k, .int .i64 c.t, .int .i64 c.f, .int .i64 c.n, .slice c.a c.l.length c.cap] rfl rfl 37 #[.int .i64 0, .int .i64 0, .int .i64 0, .int .i64 0, .slice none 0 0] hbz hinf hsz hone ?_
    rw [H2.out]
    go_wp2_with (refine wpList_store_rowTo rfl 32 (.tmp 4) (.tmp 32) rfl rfl (w.heap.size + 1) (orgA false 0 xb) rfl rfl 32 (orgA false 0 0) hst hsz2 rfl hone2 ?_)
    refine bodyPost_ret (v := .agg (orgA false 0 xb)) ?_ rfl ⟨by rw [EO.out], HBW.out⟩
    exact results_cell_row Try.results12 _ _ (w.heap.size + 1) 32 _ (0, 0) _ rfl HHP.out Try.underlying32 rfl hsz2
end Go.Proofs.Ytojipgeclofjmaa

/- Equivalent of package tidy. -/
namespace Go.Proofs.Ytojipgeclofjmaa
open Go.RowKit Go.Proofs.Ytojipgeclofjmaa.Plain01
set_option linter.unusedVariables false
set_option linter.unusedSimpArgs false

/-- The commands in ascending order. -/
def srt (cs : List Cmd) : List Cmd := cs.mergeSort (fun a b => decide (a.t ≤ b.t))
theorem srt_perm (cs : List Cmd) : (srt cs).Perm cs := List.mergeSort_perm _ _
theorem srt_asc (cs : List Cmd) : Asc (srt cs) := by
  have := List.pairwise_mergeSort (le := fun (a b : Cmd) => decide (a.t ≤ b.t)) (by intro a b c; simp; omega) (by intro a b; simp; omega) cs
  unfold Asc srt
  exact this.imp (fun h => by simpa using h)
theorem srt_eq {o n : Int} {cs ls : List Cmd} (hv : ValidD o n cs) (h1 : ls.Perm cs) (h2 : Asc ls) : ls = srt cs := sorted_same hv h1 h2 (srt_perm cs) (srt_asc cs)
/-- The commands of the canonical form. -/
def canonC (cs : List Cmd) : List Core8 := mergeL (cores (srt cs))
theorem mergeL_good {L : List Core8} (h : ∀ c ∈ L, GoodB c) : ∀ c ∈ mergeL L, GoodB c := by
  cases L with
  | nil => intro c hc; cases hc
  | cons a L => exact mergeF_good a L h
theorem valid_good {o n : Int} {cs : List Cmd} (hv : ValidD o n cs) : ∀ c ∈ cs, GoodB c.core := fun c hc => single_good (hv.all c hc) (by have := hv.lens; unfold LensBad at this; omega)
theorem canon_good {o n : Int} {cs : List Cmd} (hv : ValidD o n cs) : ∀ c ∈ canonC cs, GoodB c := mergeL_good (fun c hc => by
  obtain ⟨d, hd, rfl⟩ := List.mem_map.1 hc
  exact valid_good hv d ((srt_perm cs).mem_iff.1 hd))
theorem canon_cmds {o n : Int} {cs ds : List Cmd} (hv : ValidD o n cs) (h : cores ds = canonC cs) : ∀ c ∈ ds, GoodB c.core := fun c hc => canon_good hv _ (by rw [← h]; exact List.mem_map_of_mem (f := Cmd.core) hc)

/-- A delta in canonical form. -/
def IsTid (o n : Int) (x y : List Int) (L : List Core8) : Value → World → Prop := fun v w => ∃ (D : Array Value) (a : Option Addr) (ds : List Cmd) (cap : Nat), v = .agg D ∧ DeltaOf D o n x y (.slice a ds.length cap) ∧ CmdsIn w a ds cap ∧ cores ds = L
theorem stable_tid (o n : Int) (x y : List Int) (L : List Core8) : Stable (fun W W' => Below W.heap.size W W') (IsTid o n x y L) := fun v w w' ⟨D, a, ds, cap, h1, h2, h3, h4⟩ hE => ⟨D, a, ds, cap, h1, h2, h3.below hE, h4⟩
def IsTidS (L : List Core8) : Value → World → Prop := fun v w => ∃ (a : Option Addr) (ds : List Cmd) (cap : Nat), v = .slice a ds.length cap ∧ CmdsIn w a ds cap ∧ cores ds = L
theorem stable_tidS (L : List Core8) : Stable (fun W W' => Below W.heap.size W W') (IsTidS L) := fun v w w' ⟨a, ds, cap, h1, h2, h3⟩ hE => ⟨a, ds, cap, h1, h2.below hE, h3⟩
theorem tidy9_is (D : Array Value) (o n : Int) (x y : List Int) (ca : Option Addr) (cs : List Cmd) (ccap : Nat) (hD : DeltaOf D o n x y (.slice ca cs.length ccap)) (w : World) (h : CmdsIn w ca cs ccap) (hL : cs.length ≤ 1000) (hsm : ∀ c ∈ cs, c.l.length ≤ 1000) (hv : ValidD o n cs) :
    Calls Try.prog 17 #[.agg D] w (fun e w' => ∃ v, e = .returned v ∧ IsTid o n x y (canonC cs) v w' ∧ Below w.heap.size w w') :=
  (tidy9_any D o n x y ca cs ccap hD w h hL hsm hv).mono fun e w' ⟨D', a, ds, ls, cap, he, h1, h2, h3, h4, h5, h6⟩ => ⟨_, he, ⟨D', a, ds, cap, rfl, h1, h2, by rw [h3, srt_eq hv h4 h5]; rfl⟩, h6⟩

set_option maxRecDepth 100000 in
set_option maxHeartbeats 8000000 in
theorem equiv9_any (D E : Array Value) (o n o' n' : Int) (x y x' y' : List Int) (ca da : Option Addr) (cs ds : List Cmd) (ccap dcap : Nat) (hD : DeltaOf D o n x y (.slice ca cs.length ccap)) (hE : DeltaOf E o' n' x' y' (.slice da ds.length dcap)) (w : World) (h1 : CmdsIn w ca cs ccap) (h2 : CmdsIn w da ds dcap)
    (hL1 : cs.length ≤ 1000) (hL2 : ds.length ≤ 1000) (hs1 : ∀ c ∈ cs, c.l.length ≤ 1000) (hs2 : ∀ c ∈ ds, c.l.length ≤ 1000) (hv1 : ValidD o n cs) (hv2 : ValidD o' n' ds) :
    Calls Try.prog 21 #[.agg D, .agg E] w (Gives (.bool (decide (o = o' ∧ n = n' ∧ canonC cs = canonC ds))) w) := by
  obtain ⟨S, hS⟩ := start2 w (deltaO D) (deltaO E)
  have HT1 := Lib.hid (fun (W : World) (hW : Below w.heap.size w W) => tidy9_is D o n x y ca cs ccap hD W (h1.below hW) hL1 hs1 hv1)
  have HT2 := Lib.hid (fun (W : World) (hW : Below w.heap.size w W) => tidy9_is E o' n' x' y' da ds dcap hE W (h2.below hW) hL2 hs2 hv2)
  have HEQ : Hid (∀ (a b : Option Addr) (ls ms : List Cmd) (c1 c2 : Nat) (W : World), CmdsIn W a ls c1 → CmdsIn W b ms c2 → cores ls = canonC cs → cores ms = canonC ds → Calls Try.prog 45 #[.slice a ls.length c1, .slice b ms.length c2, .func (.func 46) #[] #[]] W (Gives (.bool (decide (canonC cs = canonC ds))) W)) := Lib.hid fun a b ls ms c1 c2 W q1 q2 q3 q4 => by
    have := equalFunc9_any a b ls ms c1 c2 W q1 q2 (canon_cmds hv1 q3) (canon_cmds hv2 q4)
    rwa [q3, q4] at this
  have HD0 := Lib.hid (fun (W : World) (hW : W.heap[w.heap.size]? = some (deltaO D)) => (show W.cell? ⟨w.heap.size, 0, none⟩ = some (.int .i64 o) ∧ W.cell? ⟨w.heap.size, 1, none⟩ = some (.int .i64 n) from ⟨(cell_of hW 0).trans hD.c0, (cell_of hW 1).trans hD.c1⟩))
  have HE0 := Lib.hid (fun (W : World) (hW : W.heap[w.heap.size + 1]? = some (deltaO E)) => (show W.cell? ⟨w.heap.size + 1, 0, none⟩ = some (.int .i64 o') ∧ W.cell? ⟨w.heap.size + 1, 1, none⟩ = some (.int .i64 n') from ⟨(cell_of hW 0).trans hE.c0, (cell_of hW 1).trans hE.c1⟩))
  have HLD := Lib.hid (fun (W : World) (hW : W.heap[w.heap.size]? = some (deltaO D)) => load_delta hD hW)
  have HLE := Lib.hid (fun (W : World) (hW : W.heap[w.heap.size + 1]? = some (deltaO E)) => load_delta hE hW)
  have HS := Lib.hid hS
  generalize canonC cs = L1 at *
  generalize canonC ds = L2 at *
  obtain ⟨POST, hP⟩ : ∃ P, P = Gives (.bool (decide (o = o' ∧ n = n' ∧ L1 = L2))) w := ⟨_, rfl⟩
  have HQ : Hid (∀ r : Bool, (r = true ↔ o = o' ∧ n = n' ∧ L1 = L2) → ∀ W, Below w.heap.size w W → POST (.returned (.bool r)) W) := Lib.hid fun r hr W hW => by
    rw [hP, show decide (o = o' ∧ n = n' ∧ L1 = L2) = r by rw [Bool.eq_iff_iff]; simp [hr]]
    exact ⟨rfl, hW⟩
  rw [← hP]
  clear hS hP hD hE h1 h2 hL1 hL2 hs1 hs2 hv1 hv2
  have hcell : ∀ s : HeldW w [(w.heap.size + 1, deltaO E), (w.heap.size, deltaO D)], (s.w.cell? ⟨w.heap.size, 0, none⟩ = some (.int .i64 o) ∧ s.w.cell? ⟨w.heap.size, 1, none⟩ = some (.int .i64 n)) ∧ s.w.cell? ⟨w.heap.size + 1, 0, none⟩ = some (.int .i64 o') ∧ s.w.cell? ⟨w.heap.size + 1, 1, none⟩ = some (.int .i64 n') := fun s =>
    ⟨HD0.out s.w (s.blocks (w.heap.size, deltaO D) (by simp)), HE0.out s.w (s.blocks (w.heap.size + 1, deltaO E) (by simp))⟩
  by_cases h1 : o = o'
  · subst h1
    by_cases h2 : n = n'
    · subst h2
      have e1 : (o == o) = true := by simp
      have e2 : (n == n) = true := by simp
      clear hcell
      go_enter Try.func21, Try.ntmps21
      go_wp2_with fail
      rw [HS.out]
      have hgd := S.blocks (w.heap.size, deltaO D) (by simp)
      have hge := S.blocks (w.heap.size + 1, deltaO E) (by simp)
      have HGD := Lib.hid (fun (W : World) (hW : Below S.w.heap.size S.w W) => heap_below hgd hW)
      have HGE := Lib.hid (fun (W : World) (hW : Below S.w.heap.size S.w W) => heap_below hge hW)
      have HBW := Lib.hid (fun (W : World) (hW : Below S.w.heap.size S.w W) => S.below.trans (hW.mono S.below.size))
      clear hgd hge
      refine wp_region_loose
        [IsV (.pointer (some ⟨w.heap.size, 0, none⟩)), IsV (.int .i64 o), IsV (.pointer (some ⟨w.heap.size + 1, 0, none⟩)), IsV (.int .i64 o), IsV (.bool true), IsV (.bool true), IsV (.pointer (some ⟨w.heap.size, 1, none⟩)), IsV (.int .i64 n), IsV (.pointer (some ⟨w.heap.size + 1, 1, none⟩)), IsV (.int .i64 n), IsV (.bool true), IsV (.bool true), IsV (.bool true), IsV (.agg D), IsTid o n x y L1, IsTidS L1, IsV (.agg E), IsTid o n x' y' L2, IsTidS L2, IsV (.bool (decide (L1 = L2))), IsV (.bool (decide (L1 = L2))), IsV (.bool (decide (L1 = L2)))]
        [⟨5, [], [2]⟩, ⟨6, [(0, 5)], []⟩, ⟨7, [], [3]⟩, ⟨8, [(2, 7)], []⟩, ⟨9, [(1, 6), (3, 8)], []⟩, ⟨10, [(4, 9)], []⟩, ⟨11, [(5, 10)], [2]⟩, ⟨12, [(5, 10), (6, 11)], []⟩, ⟨13, [(5, 10)], [3]⟩, ⟨14, [(5, 10), (8, 13)], []⟩, ⟨15, [(5, 10), (7, 12), (9, 14)], []⟩, ⟨16, [(5, 10), (10, 15)], []⟩, ⟨17, [(11, 16)], []⟩, ⟨18, [(12, 17)], [2]⟩, ⟨19, [(12, 17), (13, 18)], []⟩, ⟨20, [(12, 17), (14, 19)], []⟩, ⟨21, [(12, 17)], [3]⟩, ⟨22, [(12, 17), (16, 21)], []⟩, ⟨23, [(12, 17), (17, 22)], []⟩, ⟨24, [(12, 17), (15, 20), (18, 23)], []⟩, ⟨25, [(12, 17), (19, 24)], []⟩, ⟨4, [(20, 25)], []⟩]
        (fun W => Below S.w.heap.size S.w W) (fun W W' => Below W.heap.size W W') (by kernel_rfl) (by kernel_rfl) rfl rfl (Below.refl _ S.w).drew ?_
        ⟨?_, ?_, ?_, ?_, ?_, ?_, ?_, ?_, ?_, ?_, ?_, ?_, ?_, ?_, ?_, ?_, ?_, ?_, ?_, ?_, ?_, ?_, trivial⟩ ?_
      · repeat (first | (intro _ h; cases h; done) | refine List.forall_mem_cons.2 ⟨stable_V _ _, ?_⟩ | refine List.forall_mem_cons.2 ⟨stable_tid _ _ _ _ _, ?_⟩ | refine List.forall_mem_cons.2 ⟨stable_tidS _, ?_⟩)
      · intro A W hC hd hx
        have hk : ∀ v, A.eval (.const v) = v := fun _ => rfl
        have hy0 : A.eval (.tmp 2) = .pointer (some ⟨w.heap.size, 0, none⟩) := hx 2 (by simp)
        clear hd
        generalize A.eval = ρ at hk hy0 ⊢
        simp [go_sem, looseUpon, factOf, hk, hy0]
        exact ⟨hC, Below.refl _ _⟩
      · intro A W hC hd hx
        have hk : ∀ v, A.eval (.const v) = v := fun _ => rfl
        have c0 := (HD0.out W (HGD.out W hC)).1
        simp [factOf] at hd
        generalize A.eval = ρ at hd hk ⊢
        simp [go_sem, looseUpon, factOf, hd, hk, c0]
        exact ⟨hC, Below.refl _ _⟩
      · intro A W hC hd hx
        have hk : ∀ v, A.eval (.const v) = v := fun _ => rfl
        have hy0 : A.eval (.tmp 3) = .pointer (some ⟨w.heap.size + 1, 0, none⟩) := hx 3 (by simp)
        clear hd
        generalize A.eval = ρ at hk hy0 ⊢
        simp [go_sem, looseUpon, factOf, hk, hy0]
        exact ⟨hC, Below.refl _ _⟩
      · intro A W hC hd hx
        have hk : ∀ v, A.eval (.const v) = v := fun _ => rfl
        have c0 := (HE0.out W (HGE.out W hC)).1
        simp [factOf] at hd
        generalize A.eval = ρ at hd hk ⊢
        simp [go_sem, looseUpon, factOf, hd, hk, c0]
        exact ⟨hC, Below.refl _ _⟩
      · intro A W hC hd hx
        have hk : ∀ v, A.eval (.const v) = v := fun _ => rfl
        simp [factOf] at hd
        generalize A.eval = ρ at hd hk ⊢
        simp [go_sem, looseUpon, factOf, hd, hk]
        exact ⟨hC, Below.refl _ _⟩
      · intro A W hC hd hx
        have hk : ∀ v, A.eval (.const v) = v := fun _ => rfl
        simp [factOf] at hd
        generalize A.eval = ρ at hd hk ⊢
        simp [go_sem, looseUpon, factOf, hd, hk]
        exact ⟨hC, Below.refl _ _⟩
      · intro A W hC hd hx
        have hk : ∀ v, A.eval (.const v) = v := fun _ => rfl
        have hy0 : A.eval (.tmp 2) = .pointer (some ⟨w.heap.size, 0, none⟩) := hx 2 (by simp)
        simp [factOf] at hd
        generalize A.eval = ρ at hd hk hy0 ⊢
        simp [go_sem, looseUpon, factOf, hd, hk, hy0]
        exact ⟨hC, Below.refl _ _⟩
      · intro A W hC hd hx
        have hk : ∀ v, A.eval (.const v) = v := fun _ => rfl
        have c0 := (HD0.out W (HGD.out W hC)).2
        simp [factOf] at hd
        generalize A.eval = ρ at hd hk ⊢
        simp [go_sem, looseUpon, factOf, hd, hk, c0]
        exact ⟨hC, Below.refl _ _⟩
      · intro A W hC hd hx
        have hk : ∀ v, A.eval (.const v) = v := fun _ => rfl
        have hy0 : A.eval (.tmp 3) = .pointer (some ⟨w.heap.size + 1, 0, none⟩) := hx 3 (by simp)
        simp [factOf] at hd
        generalize A.eval = ρ at hd hk hy0 ⊢
        simp [go_sem, looseUpon, factOf, hd, hk, hy0]
        exact ⟨hC, Below.refl _ _⟩
      · intro A W hC hd hx
        have hk : ∀ v, A.eval (.const v) = v := fun _ => rfl
        have c0 := (HE0.out W (HGE.out W hC)).2
        simp [factOf] at hd
        generalize A.eval = ρ at hd hk ⊢
        simp [go_sem, looseUpon, factOf, hd, hk, c0]
        exact ⟨hC, Below.refl _ _⟩
      · intro A W hC hd hx
        have hk : ∀ v, A.eval (.const v) = v := fun _ => rfl
        simp [factOf] at hd
        generalize A.eval = ρ at hd hk ⊢
        simp [go_sem, looseUpon, factOf, hd, hk]
        exact ⟨hC, Below.refl _ _⟩
      · intro A W hC hd hx
        have hk : ∀ v, A.eval (.const v) = v := fun _ => rfl
        simp [factOf] at hd
        generalize A.eval = ρ at hd hk ⊢
        simp [go_sem, looseUpon, factOf, hd, hk]
        exact ⟨hC, Below.refl _ _⟩
      · intro A W hC hd hx
        have hk : ∀ v, A.eval (.const v) = v := fun _ => rfl
        simp [factOf] at hd
        generalize A.eval = ρ at hd hk ⊢
        simp [go_sem, looseUpon, factOf, hd, hk]
        exact ⟨hC, Below.refl _ _⟩
      · intro A W hC hd hx
        have hy0 : A.eval (.tmp 2) = .pointer (some ⟨w.heap.size, 0, none⟩) := hx 2 (by simp)
        have hld := HLD.out W (HGD.out W hC)
        simp [factOf] at hd
        refine ⟨fun g hg => (by cases hg; simp [hd]), ?_⟩
        generalize A.eval = ρ at hd hy0 ⊢
        simp [execOp, hy0, hld, looseUpon, factOf]
        exact ⟨hC, Below.refl _ _⟩
      · intro A W hC hd hx
        simp [factOf] at hd
        obtain ⟨hd0, hd1⟩ := hd
        refine ⟨fun g hg => (by cases hg; simp [hd0]), ?_⟩
        refine loose_call rfl Try.func17 (by kernel_rfl) (by kernel_rfl) ?_
        simp only [List.map_toArray, List.map_cons, List.map_nil, hd1]
        refine (HT1.out W (HBW.out W hC)).mono ?_
        rintro e' W' ⟨v', rfl, ht, h4⟩
        exact ⟨_, rfl, ht, hC.trans (h4.mono hC.size), h4⟩
      · intro A W hC hd hx
        simp [factOf] at hd
        obtain ⟨hd0, D', a', ls, cap', hd1, hD', hls, hco⟩ := hd
        have hfl := field_cmds hD' W
        refine ⟨fun g hg => (by cases hg; simp [hd0]), ?_⟩
        generalize A.eval = ρ at hd0 hd1 ⊢
        simp [execOp, hd1, hfl, looseUpon, factOf]
        exact ⟨⟨a', ls, cap', rfl, hls, hco⟩, hC, Below.refl _ _⟩
      · intro A W hC hd hx
        have hy0 : A.eval (.tmp 3) = .pointer (some ⟨w.heap.size + 1, 0, none⟩) := hx 3 (by simp)
        have hld := HLE.out W (HGE.out W hC)
        simp [factOf] at hd
        refine ⟨fun g hg => (by cases hg; simp [hd]), ?_⟩
        generalize A.eval = ρ at hd hy0 ⊢
        simp [execOp, hy0, hld, looseUpon, factOf]
        exact ⟨hC, Below.refl _ _⟩
      · intro A W hC hd hx
        simp [factOf] at hd
        obtain ⟨hd0, hd1⟩ := hd
        refine ⟨fun g hg => (by cases hg; simp [hd0]), ?_⟩
        refine loose_call rfl Try.func17 (by kernel_rfl) (by kernel_rfl) ?_
        simp only [List.map_toArray, List.map_cons, List.map_nil, hd1]
        refine (HT2.out W (HBW.out W hC)).mono ?_
        rintro e' W' ⟨v', rfl, ht, h4⟩
        exact ⟨_, rfl, ht, hC.trans (h4.mono hC.size), h4⟩
      · intro A W hC hd hx
        simp [factOf] at hd
        obtain ⟨hd0, D', a', ls, cap', hd1, hD', hls, hco⟩ := hd
        have hfl := field_cmds hD' W
        refine ⟨fun g hg => (by cases hg; simp [hd0]), ?_⟩
        generalize A.eval = ρ at hd0 hd1 ⊢
        simp [execOp, hd1, hfl, looseUpon, factOf]
        exact ⟨⟨a', ls, cap', rfl, hls, hco⟩, hC, Below.refl _ _⟩
      · intro A W hC hd hx
        simp [factOf] at hd
        obtain ⟨hd0, ⟨a1, l1, c1, hd1, hl1, hc1⟩, a2, l2, c2, hd2, hl2, hc2⟩ := hd
        refine ⟨fun g hg => (by cases hg; simp [hd0]), ?_⟩
        refine loose_call rfl Try.func45 (by kernel_rfl) (by kernel_rfl) ?_
        simp only [List.map_toArray, List.map_cons, List.map_nil, hd1, hd2]
        show Calls Try.prog 45 #[.slice a1 l1.length c1, .slice a2 l2.length c2, .func (.func 46) #[] #[]] W _
        refine (HEQ.out a1 a2 l1 l2 c1 c2 W hl1 hl2 hc1 hc2).mono ?_
        rintro e' W' ⟨rfl, h4⟩
        exact ⟨_, rfl, rfl, hC.trans (h4.mono hC.size), h4⟩
      · intro A W hC hd hx
        have hk : ∀ v, A.eval (.const v) = v := fun _ => rfl
        simp [factOf] at hd
        generalize A.eval = ρ at hd hk ⊢
        simp [go_sem, looseUpon, factOf, hd, hk]
        exact ⟨hC, Below.refl _ _⟩
      · intro A W hC hd hx
        have hk : ∀ v, A.eval (.const v) = v := fun _ => rfl
        simp [factOf] at hd
        generalize A.eval = ρ at hd hk ⊢
        simp [go_sem, looseUpon, factOf, hd, hk]
        exact ⟨hC, Below.refl _ _⟩
      intro W hC
      simp only [ends]
      rintro _ rfl _ rfl _ rfl _ rfl _ rfl _ rfl _ rfl _ rfl _ rfl _ rfl _ rfl _ rfl _ rfl _ rfl _ - _ - _ rfl _ - _ - _ rfl _ rfl _ rfl
      simp only [putAll, List.zip_cons_cons, List.zip_nil_left, List.foldl_cons, List.foldl_nil, Act.put, List.setIfInBounds_toArray, List.set_cons_succ, List.set_cons_zero]
      have HR := Lib.hid (HQ.out (decide (L1 = L2)) (by simp) W (HBW.out W hC))
      clear hC HGD HGE HBW
      go_wp2
      exact HR.out
    · have e1 : (o == o) = true := by simp
      have e2 : (n == n') = false := by simpa using h2
      have HN := Lib.hid h2
      have d0 := fun s : HeldW w [(w.heap.size + 1, deltaO E), (w.heap.size, deltaO D)] => (hcell s).1.1
      have d1 := fun s : HeldW w [(w.heap.size + 1, deltaO E), (w.heap.size, deltaO D)] => (hcell s).1.2
      have d2 := fun s : HeldW w [(w.heap.size + 1, deltaO E), (w.heap.size, deltaO D)] => (hcell s).2.1
      have d3 := fun s : HeldW w [(w.heap.size + 1, deltaO E), (w.heap.size, deltaO D)] => (hcell s).2.2
      clear h2 hcell
      go_enter Try.func21, Try.ntmps21
      go_wp2_with fail
      rw [HS.out]
      refine wp_region_class w _ (by kernel_rfl) (by kernel_rfl) S.below S.blocks (fun hne => ?_)
      repeat (go_big_quiet_step (fail))
      refine wpQuiet_nil ?_
      rintro _ ⟨s3, rfl⟩
      have HR := Lib.hid (HQ.out false (by simp [HN.out]) s3.w s3.below)
      clear hne d0 d1 d2 d3
      go_wp2
      exact HR.out
  · have e1 : (o == o') = false := by simpa using h1
    have HN := Lib.hid h1
    have d0 := fun s : HeldW w [(w.heap.size + 1, deltaO E), (w.heap.size, deltaO D)] => (hcell s).1.1
    have d2 := fun s : HeldW w [(w.heap.size + 1, deltaO E), (w.heap.size, deltaO D)] => (hcell s).2.1
    clear h1 hcell
    go_enter Try.func21, Try.ntmps21
    go_wp2_with fail
    rw [HS.out]
    refine wp_region_class w _ (by kernel_rfl) (by kernel_rfl) S.below S.blocks (fun hne => ?_)
    repeat (go_big_quiet_step (fail))
    refine wpQuiet_nil ?_
    rintro _ ⟨s3, rfl⟩
    have HR := Lib.hid (HQ.out false (by simp [HN.out]) s3.w s3.below)
    clear hne d0 d2
    go_wp2
    exact HR.out
end Go.Proofs.Ytojipgeclofjmaa
