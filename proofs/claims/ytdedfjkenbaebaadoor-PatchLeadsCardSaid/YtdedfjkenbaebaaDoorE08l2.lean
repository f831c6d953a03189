/- PatchLeads returns true for all files and block lengths, and changes nothing that was there. -/
import Derived.Test.YtdedfjkenbaebaaDoorE08a27
import Derived.Test.YtdedfjkenbaebaaDoorE08l1
namespace Go.Proofs.YtdedfjkenbaebaaDoor
open Go.RowKit
set_option linter.unusedVariables false
set_option linter.unusedSimpArgs false

set_option maxRecDepth 100000 in
set_option maxHeartbeats 4000000 in
theorem patchLeads_big (a b : Option Addr) (l x : List Int) (cap capx : Nat) (block : Int) (w : World) (hR : Roots w) (hbig : ¬ (l.length ≤ 200 ∧ x.length ≤ 200)) :
    Calls Tryd.prog 6 #[.slice a l.length cap, .slice b x.length capx, .int .i64 block] w (Gives (.bool true) w) := by
  have hA := alive08_any w hR
  obtain ⟨L, hL⟩ : ∃ L, L = l.length := ⟨_, rfl⟩
  obtain ⟨X, hX⟩ : ∃ X, X = x.length := ⟨_, rfl⟩
  rw [← hL, ← hX] at hbig ⊢
  clear hR hL hX
  by_cases h1 : 200 < L
  · have d9 : decide ((200 : Int) < (L : Int)) = true := by simp; omega
    clear hbig
    go_enter Tryd.func6, Tryd.ntmps6
    go_wp2_with fail
    refine (HeldW.call (s := HeldW.start w) hA).mono ?_
    rintro e _ ⟨rfl, s3, rfl⟩
    go_wp2
    go_ret
    exact ⟨rfl, s3.below⟩
  · have d9 : decide ((200 : Int) < (L : Int)) = false := by simp; omega
    have d14 : decide ((200 : Int) < (X : Int)) = true := by simp; omega
    clear hbig
    go_enter Tryd.func6, Tryd.ntmps6
    go_wp2_with fail
    refine (HeldW.call (s := HeldW.start w) hA).mono ?_
    rintro e _ ⟨rfl, s3, rfl⟩
    go_wp2
    go_ret
    exact ⟨rfl, s3.below⟩

set_option maxRecDepth 100000 in
set_option maxHeartbeats 8000000 in
theorem patchLeads_small (a b : Option Addr) (l x : List Int) (cap capx : Nat) (block : Int) (w : World) (hR : Roots w) (hl : BytesIn w a l cap) (hx : BytesIn w b x capx) (ol : OkB l) (ox : OkB x) (h1 : l.length ≤ 200) (h2 : x.length ≤ 200) :
    Calls Tryd.prog 6 #[.slice a l.length cap, .slice b x.length capx, .int .i64 block] w (Gives (.bool true) w) := by
  have hmk := make8_any a b l x cap capx block w hR hl hx ol ox (by omega) (by omega)
  have HR := Lib.hid hR
  have HL := Lib.hid hl
  have HX := Lib.hid hx
  have HA : Hid (∀ (D : Array Value) (ca : Option Addr) (ds : List Cmd) (ccap : Nat) (W : World), Below w.heap.size w W → DeltaOf D l.length x.length (shaL l) (shaL x) (.slice ca ds.length ccap) → CmdsIn W ca ds ccap → cores ds = makeC l x block →
      Calls Tryd.prog 19 #[.agg D] W (Gives (.bool true) W) ∧ Calls Tryd.prog 20 #[.slice a l.length cap, .agg D] W (Gives (faultV 0 0) W) ∧ Calls Tryd.prog 10 #[.slice a l.length cap, .agg D] W (MakesB x W)) := Lib.hid fun D ca ds ccap W hW hD hds hco => by
    have hv : ValidD l.length x.length ds := make_valid hco (by omega) (by omega)
    have hnew : newF l x.length ds = x := make_new hco (by omega) (by omega)
    have hlen : ds.length ≤ x.length := by
      have := makeC_few (l := l) (x := x) (block := block)
      rw [← hco] at this
      unfold cores at this
      rw [List.length_map] at this
      exact this
    have hdat : ∀ c ∈ ds, c.l.length ≤ 1000000 := fun c hc => by
      have := makeC_data (l := l) (x := x) (block := block) c.core (by rw [← hco]; exact List.mem_map_of_mem (f := Cmd.core) hc)
      have e : c.core.2.2.2.2 = c.l := rfl
      rw [e] at this
      omega
    have i1 : I64 (l.length : Int) := by unfold I64; omega
    have i2 : I64 (x.length : Int) := by unfold I64; omega
    have h0 : (faultOf (l.length : Int) (x.length : Int) ds).1 = 0 := faultOf_zero.2 hv
    refine ⟨?_, ?_, ?_⟩
    · have := dvalid_any D _ _ _ _ ca ds ccap hD W hds (by omega) i1 i2
      rwa [decide_eq_true h0] at this
    · have := pverify_any l a cap D _ _ _ _ ca ds ccap hD W (hR.below hW) (hl.below hW) hds (by omega) hdat (by omega) (by omega) i1 i2
      unfold verF at this
      rw [if_neg (show ¬ (faultOf (l.length : Int) (x.length : Int) ds).1 ≠ 0 from fun h => h h0), if_neg (show ¬ (l.length : Int) ≠ (l.length : Int) from fun h => h rfl), if_neg (show ¬ shaL l ≠ shaL l from fun h => h rfl), Int.toNat_natCast, hnew, if_neg (show ¬ shaL x ≠ shaL x from fun h => h rfl)] at this
      exact this
    · have := papply_yes l a cap D _ x.length _ _ ca ds ccap hD W (hl.below hW) hds (by omega) (by omega) rfl hv
      rwa [hnew] at this
  have HEQ := Lib.hid (fun (c c' : Option Addr) (k k' : Nat) (W : World) (h1 : BytesIn W c x k) (h2 : BytesIn W c' x k') => show Calls Tryd.prog 11 #[.slice c x.length k, .slice c' x.length k'] W (Gives (.bool true) W) from by have := eq8_any x x c c' k k' W h1 h2; rwa [decide_eq_true rfl] at this)
  have hx1 : x.length ≤ 1000000 := by omega
  have HX1 := Lib.hid hx1
  obtain ⟨L, hL⟩ : ∃ L, L = l.length := ⟨_, rfl⟩
  obtain ⟨X, hX⟩ : ∃ X, X = x.length := ⟨_, rfl⟩
  have HXX := Lib.hid hX
  have d9 : decide ((200 : Int) < (L : Int)) = false := by simp; omega
  have d14 : decide ((200 : Int) < (X : Int)) = false := by simp; omega
  unfold MakePost at hmk
  rw [← hL] at hmk HA h1 ⊢
  rw [← hX] at hmk HA HEQ h2 ⊢
  clear hR hL hX hl hx hx1
  go_enter Tryd.func6, Tryd.ntmps6
  go_wp2_with fail
  refine hmk.mono ?_
  rintro e W1 ⟨D, g, ds, rfl, hD, hds, hco, hb, hge, hap⟩
  have hinf := infoDelta hD
  have hz := zero_delta
  have hone := hD.one rfl
  have hsz : zeroDel.size = D.size := by rw [zeroDel_of.size, hD.size]
  have hzb : (W1.alloc (deltaO zeroDel)).heap[W1.heap.size]? = some (deltaO zeroDel) := heap_new W1 _ rfl
  have hbz : Below W1.heap.size W1 ((W1.alloc (deltaO zeroDel)).setRow W1.heap.size D) := below_setRow ((Below.refl _ _).alloc (Nat.le_refl _) _) (Nat.le_refl _) _
  obtain ⟨s1, hs1⟩ : ∃ s1 : HeldW w [(W1.heap.size, deltaO D)], (W1.alloc (deltaO zeroDel)).setRow W1.heap.size D = s1.w := ⟨⟨_, hb.trans (hbz.mono hb.size), all1 (setRow_heap _ _ _ _ _ _ hzb)⟩, rfl⟩
  have hBW : Below W1.heap.size W1 s1.w := by rw [← hs1]; exact hbz
  have HK := Lib.hid (fun (W : World) (hW : Below s1.w.heap.size s1.w W) => HA.out D _ ds _ W (s1.below.trans (hW.mono s1.below.size)) hD ((hds.below hBW).below hW) hco)
  have HS1 := Lib.hid hs1
  clear hmk hD hds hco hb hge hap hBW hs1 hbz
  go_wp2_with (refine wpList_store_rowTo rfl 26 (.tmp 7) (.tmp 20) rfl rfl W1.heap.size D rfl rfl 26 zeroDel hzb hinf hsz hone ?_)
  rw [HS1.out]
  have HR1 := Lib.hid (HR.out.below s1.below)
  have HB1 := Lib.hid s1.below
  have HX2 := Lib.hid (HX.out.below s1.below)
  have hbk := s1.blocks (W1.heap.size, deltaO D) (by simp)
  dsimp only at hbk
  clear HS1 hzb
  generalize s1.w = W2 at HK HR1 HB1 HX2 hbk ⊢
  clear s1
  refine (HeldW.call (s := (⟨W2, Below.refl _ _, all1 hbk⟩ : HeldW W2 [(W1.heap.size, deltaO D)])) (alive08_any _ HR1.out)).mono ?_
  rintro e _ ⟨rfl, s2, rfl⟩
  have hg := s2.blocks (W1.heap.size, deltaO D) (by simp)
  clear hz hone hsz
  go_wp2_with (refine wpList_load_rowG rfl 26 (.tmp 7) rfl (some 23) rfl W1.heap.size rfl 26 _ (0, 0) _ hg Tryd.underlying26 rfl hinf ?_)
  clear hg
  refine (HeldW.call (HK.out s2.w s2.below).1).mono ?_
  rintro e _ ⟨rfl, s3, rfl⟩
  have hg := s3.blocks (W1.heap.size, deltaO D) (by simp)
  go_wp2_with (refine wpList_load_rowG rfl 26 (.tmp 7) rfl (some 28) rfl W1.heap.size rfl 26 _ (0, 0) _ hg Tryd.underlying26 rfl hinf ?_)
  clear hg
  refine (HeldW.call (HK.out s3.w s3.below).2.1).mono ?_
  rintro e _ ⟨rfl, s4, rfl⟩
  have hg := s4.blocks (W1.heap.size, deltaO D) (by simp)
  go_wp2_with (refine wpList_load_rowG rfl 26 (.tmp 7) rfl (some 35) rfl W1.heap.size rfl 26 _ (0, 0) _ hg Tryd.underlying26 rfl hinf ?_)
  clear hg
  refine ((HK.out s4.w s4.below).2.2).mono ?_
  rintro e W5 ⟨g5, rfl, hg5, hk5, hb5⟩
  have hbl := bytes_lit8 hk5 HX1.out
  rw [← HXX.out] at hbl
  have hxb := (HX2.out.below s4.below).below hb5
  have heq := HEQ.out _ _ _ _ W5 hbl hxb
  rw [← HXX.out]
  have HB5 := Lib.hid (HB1.out.trans ((s4.below.trans (hb5.mono s4.below.size)).mono HB1.out.size))
  clear hbl hxb hk5 hb5
  go_wp2_with fail
  refine heq.mono ?_
  rintro e W6 ⟨rfl, hb6⟩
  have HB6 := Lib.hid (HB5.out.trans (hb6.mono HB5.out.size))
  clear heq hb6
  go_wp2
  go_ret
  exact ⟨rfl, HB6.out⟩

theorem patchLeads_walk (a : Option Addr) (l : List Int) (cap : Nat) (b : Option Addr) (x : List Int) (capx : Nat) (block : Int) (w : World) (hR : Roots w) (hl : BytesIn w a l cap) (ol : OkB l) (hx : BytesIn w b x capx) (ox : OkB x) (hbl : -9223372036854775808 ≤ block ∧ block ≤ 9223372036854775807) :
    Calls Tryd.prog 6 #[.slice a l.length cap, .slice b x.length capx, .int .i64 block] w (Gives (.bool true) w) := by
  by_cases h : l.length ≤ 200 ∧ x.length ≤ 200
  · exact patchLeads_small a b l x cap capx block w hR hl hx ol ox h.1 h.2
  · exact patchLeads_big a b l x cap capx block w hR h
end Go.Proofs.YtdedfjkenbaebaaDoor
