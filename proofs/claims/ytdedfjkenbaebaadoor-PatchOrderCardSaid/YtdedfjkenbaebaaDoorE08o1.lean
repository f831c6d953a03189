import Derived.Shelf.SlicesQ.Reverse
import Derived.Shelf.SlGeneric
import Derived.Ground.SlgnProg
import Derived.Test.YtdedfjkenbaebaaDoorE08a19
import Derived.Test.YtdedfjkenbaebaaDoorE08a24
import Derived.Test.YtdedfjkenbaebaaDoorE08a27
import Derived.Test.YtdedfjkenbaebaaDoorE08a18
/- slices.Reverse over commands. -/
namespace Go.Proofs
open Go.Shelf
def Tryd.reverse5_ren : Go.Shelf.Ren := ⟨fun | 35 => 21 | n => n, fun | 22 => 24 | 23 => 46 | 3 => 3 | 4 => 4 | 0 => 0 | n => n, fun | n => n⟩
theorem Tryd.reverse5 : Go.Proofs.SlLaysE0.n35 Tryd.prog Tryd.reverse5_ren := {
  mixed := by kernel_rfl
  f35 := ⟨"slices.Reverse[[]graft/api.Command,graft/api.Command]", by decide, Tryd.func21.trans (congrArg some (by kernel_rfl))⟩
  t0 := Tryd.underlying0
  a0 := Tryd.isAgg0
  z0 := Tryd.sizeOf0
  v0 := Tryd.zeroValue0
  t3 := Tryd.underlying3
  a3 := Tryd.isAgg3
  z3 := Tryd.sizeOf3
  v3 := Tryd.zeroValue3
  t4 := Tryd.underlying4
  a4 := Tryd.isAgg4
  z4 := Tryd.sizeOf4
  v4 := Tryd.zeroValue4
  t22 := Tryd.underlying24
  a22 := Tryd.isAgg24
  z22 := Tryd.sizeOf24
  v22 := Tryd.zeroValue24 }
end Go.Proofs
namespace Go.Proofs.YtdedfjkenbaebaaDoor
open Go.RowKit Go.Shelf Go.Lib Go.Sort
set_option linter.unusedVariables false
set_option linter.unusedSimpArgs false

instance : Inhabited Cmd := ⟨⟨0, 0, 0, 0, [], none, 0⟩⟩
theorem cells5_length (c : Cmd) : (Cmd.cells c).length = 5 := rfl
theorem rev_empty (a : Option Addr) (cap : Nat) (w : World) : Calls Tryd.prog 21 #[.slice a 0 cap] w fun e w' => e = .returned (.tuple #[]) ∧ w' = w :=
  AnyQ.slices_Reverse_empty Tryd.reverse5 a cap w
theorem rev_any (g cap : Nat) (cs : List Cmd) (w : World) (hc : ∀ (i : Nat) (c : Cmd), cs[i]? = some c → ∀ (j : Nat) (u : Value), (Cmd.cells c)[j]? = some u → w.cell? ⟨g, i * 5 + j, none⟩ = some u) (hfr : ∀ i, w.frozen? ⟨g, i, none⟩ = false) (hL : cs.length ≤ 1000000) :
    Calls Tryd.prog 21 #[.slice (some ⟨g, 0, none⟩) cs.length cap] w fun e w' => e = .returned (.tuple #[]) ∧ ButO (some g) w.heap.size w w' ∧ ∀ (i : Nat) (c : Cmd), cs.reverse[i]? = some c → ∀ (j : Nat) (u : Value), (Cmd.cells c)[j]? = some u → w'.cell? ⟨g, i * 5 + j, none⟩ = some u := by
  have hget : ∀ (l : List Cmd) (i : Nat) (c : Cmd), l[i]? = some c → l.toArray[i]! = c := fun l i c h => by
    obtain ⟨hi, rfl⟩ := List.getElem?_eq_some_iff.1 h
    rw [getElem!_pos l.toArray i (by simpa using hi)]
    simp
  have hH : HoldsK Cmd.cells 5 w g 0 cs.toArray := by
    intro t ht
    rw [size_flatK, List.size_toArray] at ht
    rw [get_flatK _ _ _ _ (by simpa using ht), Nat.zero_add]
    have hi : t / 5 < cs.length := by omega
    have hci : cs[t / 5]? = some cs[t / 5] := List.getElem?_eq_getElem hi
    refine ⟨?_, hfr t⟩
    rw [hget cs _ _ hci]
    have hj : t % 5 < (Cmd.cells cs[t / 5]).length := by rw [cells5_length]; omega
    have := hc _ _ hci (t % 5) _ (List.getElem?_eq_getElem hj)
    rw [show t / 5 * 5 + t % 5 = t by omega] at this
    rw [this, getElem!_pos (Cmd.cells cs[t / 5]) (t % 5) hj]
    rfl
  have := AnyQ.slices_Reverse Tryd.reverse5 5 (fun w => by kernel_rfl) (fun w => by kernel_rfl) Cmd.cells (fun _ => rfl) (fun x v hv => by
    simp only [Cmd.cells, List.mem_cons, List.not_mem_nil, or_false] at hv
    rcases hv with rfl | rfl | rfl | rfl | rfl <;> rfl) g 0 cap cs.toArray w hH (by simp; omega)
  rw [List.size_toArray] at this
  refine this.mono ?_
  rintro e w' ⟨he, n, rfl⟩
  refine ⟨he, ⟨rfl, rfl, rfl, by simp [putRowK, putRow, mapBlock, Sort.ahead], fun k hk hn => ?_⟩, fun i c hi j u hu => ?_⟩
  · have hkg : ¬ g = k := fun h => hn (by rw [h])
    simp [putRowK, putRow, mapBlock, Sort.ahead, Array.getElem?_modify, hkg]
  · have hh := holdsK_putRowK (enc := Cmd.cells) (k := 5) (Sort.ahead w n) g 0 cs.toArray cs.toArray.reverse (holdsK_ahead (enc := Cmd.cells) (k := 5) w n g 0 cs.toArray hH) (by simp)
    have hil : i < cs.toArray.reverse.size := by
      have := (List.getElem?_eq_some_iff.1 hi).1
      simpa using this
    have hj5 : j < 5 := by have := (List.getElem?_eq_some_iff.1 hu).1; rwa [cells5_length] at this
    have h2 := (HoldsK.cell hh hil hj5).1
    rw [Nat.zero_add] at h2
    rw [h2]
    have e1 : cs.toArray.reverse = cs.reverse.toArray := by simp
    rw [e1, hget _ _ _ hi]
    have hj : j < (Cmd.cells c).length := by rw [cells5_length]; exact hj5
    rw [List.getElem?_eq_getElem hj] at hu
    rw [getElem!_pos (Cmd.cells c) j hj]
    exact hu
end Go.Proofs.YtdedfjkenbaebaaDoor

/- PatchOrder returns true for every file and delta, and changes nothing that was there. -/
namespace Go.Proofs.YtdedfjkenbaebaaDoor
open Go.RowKit
set_option linter.unusedVariables false
set_option linter.unusedSimpArgs false

set_option maxRecDepth 100000 in
set_option maxHeartbeats 4000000 in
theorem patchOrder_big1 (a : Option Addr) (l : List Int) (cap : Nat) (D : Array Value) (w : World) (hR : Roots w) (hbig : 300 < l.length) :
    Calls Tryd.prog 7 #[.slice a l.length cap, .agg D] w (Gives (.bool true) w) := by
  obtain ⟨S, hS⟩ := start1 w (deltaO D)
  have hA := alive08_any S.w (hR.W S)
  have HS := Lib.hid hS
  generalize l.length = L at *
  have d9 : decide ((300 : Int) < (L : Int)) = true := by simp; omega
  clear hS hR
  go_enter Tryd.func7, Tryd.ntmps7
  go_wp2_with fail
  rw [HS.out]
  refine (HeldW.call hA).mono ?_
  rintro e _ ⟨rfl, s3, rfl⟩
  go_wp2
  go_ret
  exact ⟨rfl, s3.below⟩

set_option maxRecDepth 100000 in
set_option maxHeartbeats 4000000 in
theorem patchOrder_no (a : Option Addr) (l : List Int) (cap : Nat) (D : Array Value) (o n : Int) (x y : List Int) (ca : Option Addr) (cs : List Cmd) (ccap : Nat) (hD : DeltaOf D o n x y (.slice ca cs.length ccap)) (w : World) (hR : Roots w) (h : CmdsIn w ca cs ccap) (hs : l.length ≤ 300) (hf : ¬ FitsD l.length o n cs) :
    Calls Tryd.prog 7 #[.slice a l.length cap, .agg D] w (Gives (.bool true) w) := by
  obtain ⟨S, hS⟩ := start1 w (deltaO D)
  have hF := rfits8_any a l.length cap D o n x y ca cs ccap hD S.w (h.W S)
  have HR := Lib.hid hR
  have HNF := Lib.hid hf
  have hinf := infoDelta hD
  have hg : (w.alloc (deltaO D)).heap[w.heap.size]? = some (deltaO D) := heap_new w _ rfl
  have HS := Lib.hid hS
  generalize l.length = L at *
  have d9 : decide ((300 : Int) < (L : Int)) = false := by simp; omega
  clear hS hD h hf hR
  go_enter Tryd.func7, Tryd.ntmps7
  go_wp2_with (refine wpList_load_rowG rfl 26 (.tmp 3) rfl (some 12) rfl w.heap.size rfl 26 _ (0, 0) _ hg Tryd.underlying26 rfl hinf ?_)
  rw [HS.out]
  clear hg
  refine hF.mono ?_
  rintro e W2 ⟨r, rfl, hr, hb2⟩
  obtain ⟨s2, rfl⟩ := S.after hb2
  obtain rfl : r = false := by
    cases r with
    | false => rfl
    | true => exact absurd (hr.1 rfl) HNF.out
  clear hr hb2
  go_wp2_with fail
  refine (HeldW.call (alive08_any _ (HR.out.W s2))).mono ?_
  rintro e _ ⟨rfl, s3, rfl⟩
  go_wp2
  go_ret
  exact ⟨rfl, s3.below⟩

/-- The commands in a row of cells. -/
theorem cmds_row {w : World} {g cap : Nat} {cs : List Cmd} (hc : ∀ (i : Nat) (c : Cmd), cs[i]? = some c → ∀ (j : Nat) (u : Value), (Cmd.cells c)[j]? = some u → w.cell? ⟨g, i * 5 + j, none⟩ = some u) (hok : ∀ c ∈ cs, CmdOK w c) (h1 : cs.length ≤ cap) (h2 : cap ≤ 9223372036854775807) : CmdsIn w (some ⟨g, 0, none⟩) cs cap :=
  ⟨h1, h2, fun _ => ⟨g, 0, rfl, fun i c hi j u hu => by
    have := hc i c hi j u hu
    rwa [Nat.zero_add]⟩, hok, fun h => by cases h⟩

theorem Grow.empty5 {w : World} {bs : List (Nat × Obj)} (s : HeldW w bs) : ∃ S : Grow s.w none bs [] 46 5 (.slice (some ⟨s.w.heap.size, 0, none⟩) 0 0) 0 [], s.w.alloc (.cells #[] 46) = S.w :=
  ⟨⟨s.w.alloc (.cells #[] 46), ButO.of_below ((Below.refl _ _).alloc (Nat.le_refl _) _), ⟨rfl, .inr ⟨s.w.heap.size, 0, #[], rfl, Nat.le_refl _, heap_new _ _ rfl, Nat.le_refl _, by unfold maxLen; omega, rfl, rfl⟩⟩, (fun g hg => by cases hg), (fun p hp => ⟨heap_old (s.blocks p hp) _, fun he => by
    have := (Array.getElem?_eq_some_iff.1 (s.blocks p hp)).1
    simp only [Value.ownBlock, Option.some.injEq] at he
    omega⟩), (fun p hp => by simp at hp)⟩, rfl⟩
theorem cmds_all {w : World} {ca : Option Addr} {cs : List Cmd} {ccap : Nat} (h : CmdsIn w ca cs ccap) : ∀ ad, ca = some ad → ∀ (j : Nat) (u : Value), (flat5 cs)[j]? = some u → w.cell? (ad.add j) = some u := by
  intro ad had j u hu
  obtain ⟨c, hc, hcu⟩ := flat5_get cs j u hu
  obtain ⟨b, o, he, hcell⟩ := h.cells (by have := (List.getElem?_eq_some_iff.1 hc).1; omega)
  rw [he] at had
  cases had
  have := hcell _ c hc _ u hcu
  rw [Addr.add_mid]
  rwa [Nat.add_assoc, show j / 5 * 5 + j % 5 = j by omega] at this
/-- A new row of commands is turned round. -/
theorem row_rev {w0 : World} {bs : List (Nat × Obj)} {v : Value} {cs : List Cmd} (S : Grow w0 none bs [] 46 5 v cs.length (flat5 cs)) (hok : ∀ c ∈ cs, CmdOK w0 c) (hL : cs.length ≤ 1000000) :
    ∃ A C, v = .slice A cs.length C ∧ Calls Tryd.prog 21 #[v] S.w fun e w' => e = .returned (.tuple #[]) ∧ CmdsIn w' A cs.reverse C ∧ ∃ s : HeldW w0 bs, w' = s.w := by
  obtain ⟨hlen, hh⟩ := S.own
  rcases hh with ⟨rfl, h0⟩ | ⟨g, cap, cur, rfl, hg, hb, hn, hcap, hsz, htk⟩
  · have e0 : cs = [] := List.eq_nil_of_length_eq_zero h0
    subst e0
    refine ⟨none, 0, rfl, (rev_empty none 0 S.w).mono ?_⟩
    rintro e w' ⟨he, rfl⟩
    exact ⟨he, ⟨by simp, by omega, fun hp => by simp at hp, fun c hc => by simp at hc, fun _ => rfl⟩, ⟨S.w, S.but.below, fun p hp => (S.blocks p hp).1⟩, rfl⟩
  · have hcap2 : cap ≤ 9223372036854775807 := by unfold maxLen at hcap; omega
    refine ⟨some ⟨g, 0, none⟩, cap, rfl, (rev_any g cap cs S.w (fun i c hi j u hu => ?_) (fun i => free_of hb i) hL).mono ?_⟩
    · rw [cell_of hb]
      have h1 := flat5_put cs i j c u hi hu
      rw [← htk, List.getElem?_take] at h1
      split at h1
      · simpa using h1
      · cases h1
    · rintro e w' ⟨he, hbut, hcell⟩
      have hbw : Below w0.heap.size w0 w' := S.but.below.trans ((hbut.mono S.but.size).below' hg)
      refine ⟨he, cmds_row hcell (fun c hc => (hok c (List.mem_reverse.1 hc)).below hbw) (by simpa using hn) hcap2 , ⟨w', hbw, fun p hp => ?_⟩, rfl⟩
      obtain ⟨h1, h2⟩ := S.blocks p hp
      exact (hbut.block _ (Array.getElem?_eq_some_iff.1 h1).1 (fun he => h2 (by simp only [Value.ownBlock]; exact he))).trans h1

set_option maxRecDepth 100000 in
set_option maxHeartbeats 8000000 in
theorem patchOrder_yes (a : Option Addr) (l : List Int) (cap : Nat) (D : Array Value) (o : Int) (n : Nat) (x y : List Int) (ca : Option Addr) (cs : List Cmd) (ccap : Nat) (hD : DeltaOf D o n x y (.slice ca cs.length ccap)) (w : World) (hR : Roots w) (hb : BytesIn w a l cap) (h : CmdsIn w ca cs ccap) (hs : l.length ≤ 300) (hf : FitsD l.length o n cs) :
    Calls Tryd.prog 7 #[.slice a l.length cap, .agg D] w (Gives (.bool true) w) := by
  obtain ⟨E, hE⟩ := elem5
  obtain ⟨S, hS⟩ := start1 w (deltaO D)
  have hv := faultOf_zero.1 hf.1.1.2
  have ho : (l.length : Int) = o := hf.1.2.symm
  have hn3 : n ≤ 3000 := by have := hf.2; omega
  have hL40 : cs.length ≤ 40 := hf.1.1.1.2
  have hF := rfits8_any a l.length cap D o n x y ca cs ccap hD S.w (h.W S)
  have HRA := Lib.hid (fun (W : World) (hW : Below w.heap.size w W) => rapply8_any l a cap D o n x y ca cs ccap hD W (hb.below hW) (h.below hW) (by omega) (by omega) ho hv)
  have HAP : Hid (∀ (D' : Array Value) (ca' : Option Addr) (ds : List Cmd) (cap' : Nat) (W : World), Below w.heap.size w W → DeltaOf D' o n x y (.slice ca' ds.length cap') → CmdsIn W ca' ds cap' → ds.length ≤ 1000000 → ValidD o n ds → newF l n ds = newF l n cs → Calls Tryd.prog 10 #[.slice a l.length cap, .agg D'] W (MakesB (newF l n cs) W)) := Lib.hid fun D' ca' ds cap' W hW hD' hds hlen hvd hnew => by
    have := papply_yes l a cap D' o n x y ca' ds cap' hD' W (hb.below hW) hds hlen (by omega) ho hvd
    rwa [hnew] at this
  have HREV : Hid (ValidD o n cs.reverse ∧ newF l n cs.reverse = newF l n cs) := Lib.hid ⟨hv.perm (List.reverse_perm cs), newF_perm ho hv (List.reverse_perm cs)⟩
  have HSO := Lib.hid (fun (W : World) (hW : Below w.heap.size w W) => dsort_any2 D o n x y ca cs ccap hD W (h.below hW) (by omega) (fun c hc => by have := hf.1.1.1.1 c hc; omega))
  have HSV : Hid (∀ ds ls : List Cmd, cores ds = cores ls → ls.Perm cs → ValidD o n ds ∧ newF l n ds = newF l n cs) := Lib.hid fun ds ls h1 h2 => ⟨valid_cores h1 (hv.perm h2), (newF_cores ho (hv.perm h2) h1).trans (newF_perm ho hv h2)⟩
  have HWI := Lib.hid (fun (A : Option Addr) (L C : Nat) (W : World) => rwith_any D o n x y (.slice ca cs.length ccap) A L C hD W)
  have HV := Lib.hid (And.intro ho hv)
  have HD := Lib.hid hD
  have HC := Lib.hid h
  have HR := Lib.hid hR
  have HNF := Lib.hid hf
  have hinf := infoDelta hD
  have hg : (w.alloc (deltaO D)).heap[w.heap.size]? = some (deltaO D) := heap_new w _ rfl
  have HS := Lib.hid hS
  have HFL := Lib.hid (newF_length l n cs)
  have HEQ := Lib.hid (fun (c c' : Option Addr) (k k' : Nat) (W : World) (h1 : BytesIn W c (newF l n cs) k) (h2 : BytesIn W c' (newF l n cs) k') => show Calls Tryd.prog 11 #[.slice c (newF l n cs).length k, .slice c' (newF l n cs).length k'] W (Gives (.bool true) W) from by have := eq8_any (newF l n cs) (newF l n cs) c c' k k' W h1 h2; rwa [decide_eq_true rfl] at this)
  have H66 := Lib.hid (fun (W : World) (hW : W.heap[w.heap.size]? = some (deltaO D)) => (cell_of hW 66).trans hD.c66)
  obtain ⟨F, hF2⟩ : ∃ F, F = newF l n cs := ⟨_, rfl⟩
  have HF2 : Hid (newF l n cs = F) := Lib.hid hF2.symm
  rw [← hF2] at HRA HAP HREV HSV HFL HEQ
  obtain ⟨L, hL⟩ : ∃ L, L = l.length := ⟨_, rfl⟩
  rw [← hL] at HRA HAP hF HNF hs ⊢
  obtain ⟨CC, hCC⟩ : ∃ CC, CC = cs.length := ⟨_, rfl⟩
  have HCC := Lib.hid hCC
  have hccb : CC ≤ 40 := by omega
  have hcap1 := h.len
  have hcap2 := h.capb
  rw [← hCC] at H66 hcap1
  have d9 : decide ((300 : Int) < (L : Int)) = false := by simp; omega
  clear hS hD h hf hR hb ho hv hF2 hL hCC hL40
  go_enter Tryd.func7, Tryd.ntmps7
  go_wp2_with (refine wpList_load_rowG rfl 26 (.tmp 3) rfl (some 12) rfl w.heap.size rfl 26 _ (0, 0) _ hg Tryd.underlying26 rfl hinf ?_)
  rw [HS.out]
  clear hg
  refine hF.mono ?_
  rintro e W2 ⟨r, rfl, hr, hb2⟩
  obtain ⟨s2, rfl⟩ := S.after hb2
  obtain rfl : r = true := hr.2 HNF.out
  have hg := s2.blocks (w.heap.size, deltaO D) (by simp)
  clear hr hb2 hF
  go_wp2_with (refine wpList_load_row rfl 26 (.tmp 3) rfl w.heap.size rfl 26 _ (0, 0) _ hg Tryd.underlying26 rfl hinf ?_)
  clear hg
  have ha1 := HAP.out D ca cs ccap s2.w s2.below HD.out (HC.out.below s2.below) (by rw [← HCC.out]; omega) HV.out.2 HF2.out
  refine ha1.mono ?_
  rintro e W4 ⟨g4, rfl, hg4, hk4, hb4⟩
  obtain ⟨s4, rfl⟩ : ∃ s4 : HeldW w [(g4, .cells (byteA F) 5 (0, 0)), (w.heap.size, deltaO D)], W4 = s4.w := ⟨⟨W4, s2.below.trans (hb4.mono s2.below.size), all2 hk4 (heap_below (s2.blocks (w.heap.size, deltaO D) (by simp)) hb4)⟩, rfl⟩
  clear hk4 hg4 ha1 hb4 s2
  have c66 : (s4.w.alloc (.cells #[] 46)).cell? ⟨w.heap.size, 66, none⟩ = some (.slice ca CC ccap) := H66.out _ (heap_old (s4.blocks (w.heap.size, deltaO D) (by simp)) _)
  obtain ⟨G0, hG0⟩ := Grow.empty5 s4
  have HG0 := Lib.hid hG0
  have hcin := HC.out.below (s4.below.trans (G0.but.below.mono s4.below.size))
  have HNEWS := Lib.hid (cmds_all hcin)
  have HNIL := Lib.hid (show ca = none → CC = 0 ∧ ccap = 0 from fun h0 => by have := hcin.nil h0; omega)
  have hfl : (flat5 cs).length = CC * 5 := by rw [flat5_length, HCC.out]
  have hEb : (0 + CC) * E.bytes ≤ 140737488355328 := by rw [hE]; omega
  have hE63 : 0 + CC ≤ maxLen := by unfold maxLen; omega
  have HOK := Lib.hid (show ∀ c ∈ cs, CmdOK s4.w c from fun c hc => (HC.out.ok c hc).below s4.below)
  clear hG0 hcin
  go_wp2_with (rw [HG0.out]; refine Grow.appendO E G0 (.tmp 20) (.tmp 22) rfl rfl rfl ca CC ccap (flat5 cs) hfl rfl HNIL.out HNEWS.out (flat5_one cs) hE63 hEb ?_; intro v6 G1; clear c66)
  obtain ⟨G2, hG2⟩ := G1.conv (n' := cs.length) (xs' := flat5 cs) (by rw [← HCC.out]; omega) (by simp)
  rw [hG2]
  obtain ⟨A, C, rfl, hrev⟩ := row_rev G2 HOK.out (by rw [← HCC.out]; omega)
  clear hG2 G1 hfl hEb hE63
  refine hrev.mono ?_
  rintro e _ ⟨rfl, hback, s5, rfl⟩
  clear hrev G2
  have HB5 := Lib.hid (s4.below.trans (s5.below.mono s4.below.size))
  rw [← HCC.out]
  obtain ⟨W5, s6, h6, hW5⟩ : ∃ (W5 : World) (s6 : HeldW W5 [(g4, .cells (byteA F) 5 (0, 0)), (w.heap.size, deltaO D)]), s5.w = s6.w ∧ s5.w = W5 := ⟨s5.w, ⟨s5.w, Below.refl _ _, s5.blocks⟩, rfl, rfl⟩
  have HB := Lib.hid (show CmdsIn W5 A cs.reverse C from hW5 ▸ hback)
  have HBW := Lib.hid (show Below w.heap.size w W5 from hW5 ▸ HB5.out)
  have HBL := Lib.hid (fun (s : HeldW W5 [(g4, .cells (byteA F) 5 (0, 0)), (w.heap.size, deltaO D)]) => HBW.out.trans (s.below.mono HBW.out.size))
  have HREVL : Hid (cs.reverse.length = CC) := Lib.hid (by rw [List.length_reverse, HCC.out])
  have HGF := Lib.hid (fun (s : HeldW W5 [(g4, .cells (byteA F) 5 (0, 0)), (w.heap.size, deltaO D)]) => bytes_lit8 (s.blocks (g4, .cells (byteA F) 5 (0, 0)) (by simp)) (by have := HFL.out; omega))
  rw [h6]
  clear hW5 h6 hback HB5 s5 G0 HG0 HNEWS HNIL HOK
  go_wp2_with fail
  refine (HeldW.call (alive08_any _ (HR.out.below (HBL.out s6)))).mono ?_
  rintro e _ ⟨rfl, s7, rfl⟩
  have hg := s7.blocks (w.heap.size, deltaO D) (by simp)
  clear s6
  go_wp2_with (refine wpList_load_rowG rfl 26 (.tmp 3) rfl (some 29) rfl w.heap.size rfl 26 _ (0, 0) _ hg Tryd.underlying26 rfl hinf ?_)
  clear hg
  refine (HWI.out A CC C s7.w).mono ?_
  rintro e W8 ⟨D8, rfl, hD8, hb8⟩
  obtain ⟨s8, rfl⟩ := s7.after hb8
  have ha8 := HAP.out D8 A cs.reverse C s8.w (HBL.out s8) (by rw [HREVL.out]; exact hD8) (HB.out.below s8.below) (by rw [HREVL.out]; omega) HREV.out.1 HREV.out.2
  clear hD8 hb8 s7
  go_wp2_with fail
  refine ha8.mono ?_
  rintro e W9 ⟨g9, rfl, hg9, hk9, hb9⟩
  obtain ⟨s9, rfl⟩ := s8.after hb9
  have he9 := HEQ.out _ _ _ _ s9.w (bytes_lit8 hk9 (by have := HFL.out; omega)) (HGF.out s9)
  clear ha8 hk9 hg9 hb9 s8
  go_wp2_with fail
  refine (HeldW.call he9).mono ?_
  rintro e _ ⟨rfl, s10, rfl⟩
  have hg := s10.blocks (w.heap.size, deltaO D) (by simp)
  clear he9 s9
  go_wp2_with (refine wpList_load_rowG rfl 26 (.tmp 3) rfl (some 38) rfl w.heap.size rfl 26 _ (0, 0) _ hg Tryd.underlying26 rfl hinf ?_)
  clear hg
  refine (HSO.out s10.w (HBL.out s10)).mono ?_
  rintro e W11 ⟨D11, g11, ds, ls, rfl, hD11, hds, hco, hpe, -, hb11, -, -⟩
  obtain ⟨s11, rfl⟩ := s10.after hb11
  have hvd := HSV.out ds ls hco hpe
  have hdl : ds.length ≤ 1000000 := by
    have e1 := cores_len hco
    have e2 := hpe.length_eq
    have e3 := HCC.out
    omega
  have ha11 := HAP.out D11 _ ds _ s11.w (HBL.out s11) hD11 hds hdl hvd.1 hvd.2
  clear hD11 hds hco hpe hb11 hvd hdl s10
  go_wp2_with fail
  refine ha11.mono ?_
  rintro e W12 ⟨g12, rfl, hg12, hk12, hb12⟩
  obtain ⟨s12, rfl⟩ := s11.after hb12
  have he12 := HEQ.out _ _ _ _ s12.w (bytes_lit8 hk12 (by have := HFL.out; omega)) (HGF.out s12)
  clear ha11 hk12 hg12 hb12 s11
  go_wp2_with fail
  refine (HeldW.call he12).mono ?_
  rintro e _ ⟨rfl, s13, rfl⟩
  have hg := s13.blocks (w.heap.size, deltaO D) (by simp)
  clear he12 s12
  go_wp2_with (refine wpList_load_rowG rfl 26 (.tmp 3) rfl (some 47) rfl w.heap.size rfl 26 _ (0, 0) _ hg Tryd.underlying26 rfl hinf ?_)
  clear hg
  refine (HRA.out s13.w (HBL.out s13)).mono ?_
  rintro e _ ⟨v14, rfl, o14, rfl⟩
  obtain ⟨a14, cap14, rfl, hb14⟩ := o14.bytes
  obtain ⟨s14, hs14⟩ := o14.on s13
  rw [hs14] at hb14 ⊢
  have he14 := HEQ.out _ _ _ _ s14.w (HGF.out s14) hb14
  clear hs14 o14 hb14 s13
  go_wp2_with fail
  refine (HeldW.call he14).mono ?_
  rintro e _ ⟨rfl, s15, rfl⟩
  have HBZ := Lib.hid (HBL.out s15)
  go_wp2
  go_ret
  exact ⟨rfl, HBZ.out⟩

theorem patchOrder_walk (a : Option Addr) (l : List Int) (cap : Nat) (o n : Int) (x y : List Int) (ca : Option Addr) (cs : List Cmd) (ccap : Nat) (w : World) (hR : Roots w) (hb : BytesIn w a l cap) (io : I64 o) (inn : I64 n) (hx : x.length = 32) (hy : y.length = 32) (h : CmdsIn w ca cs ccap) :
    Calls Tryd.prog 7 #[.slice a l.length cap, .agg (deltaA o n x y (.slice ca cs.length ccap))] w (Gives (.bool true) w) := by
  have hD : DeltaOf (deltaA o n x y (.slice ca cs.length ccap)) o n x y (.slice ca cs.length ccap) := ⟨rfl, hx, hy⟩
  by_cases h1 : 300 < l.length
  · exact patchOrder_big1 a l cap _ w hR h1
  · by_cases h2 : FitsD l.length o n cs
    · obtain ⟨m, rfl⟩ : ∃ m : Nat, n = m := ⟨n.toNat, by have := (faultOf_zero.1 h2.1.1.2).lens; unfold LensBad at this; omega⟩
      exact patchOrder_yes a l cap _ o m x y ca cs ccap hD w hR hb h (by omega) h2
    · exact patchOrder_no a l cap _ o n x y ca cs ccap hD w hR h (by omega) h2
end Go.Proofs.YtdedfjkenbaebaaDoor
