/- DeltaWith returns true for every two deltas, and changes nothing that was there. -/
import Derived.BigQuiet
import Derived.Test.Ytifdeeaoaekokaa05Alive
import Derived.Test.Ytifdeeaoaekokaa05RCheck
import Derived.Test.Ytifdeeaoaekokaa05RSameD
namespace Go.Proofs.Ytifdeeaoaekokaa
open Go.RowKit Go.Shelf Go.Proofs.Ytifdeeaoaekokaa.Plain01
set_option linter.unusedVariables false
set_option linter.unusedSimpArgs false

theorem rwith_eq (D : Array Value) (o n : Int) (x y : List Int) (s0 : Value) (a : Option Addr) (L cap : Nat) (hD : DeltaOf D o n x y s0) (w : World) :
    Calls Try.prog 21 #[.agg D, .slice a L cap] w (Gives (.agg (deltaA o n x y (.slice a L cap))) w) :=
  (rwith_any D o n x y s0 a L cap hD w).mono fun e w' ⟨D', he, hD', hb⟩ => ⟨by rw [he, hD'.eq], hb⟩
theorem sameD_refl (o n : Int) (x y : List Int) (cs : List Cmd) : sameD o n x y cs o n x y cs = true := by simp [sameD]
theorem sameD_cores {o n : Int} {x y : List Int} {cs ds : List Cmd} (h : cores cs = cores ds) : sameD o n x y cs o n x y ds = true := by simp [sameD, h]
theorem sameD_cmds (o n : Int) (x y : List Int) (cs ds es : List Cmd) (h : cores cs = cores ds) : sameD o n x y cs o n x y es = decide (cores es = cores ds) := by
  unfold sameD
  rw [h]
  by_cases e : cores ds = cores es
  · simp [e]
  · have e' : ¬ cores es = cores ds := fun h => e h.symm
    simp [e, e']

set_option maxRecDepth 100000 in
set_option maxHeartbeats 4000000 in
theorem deltaWith_bigA (A E : Array Value) (o n o' n' : Int) (x y x' y' : List Int) (ca da : Option Addr) (cs ds : List Cmd) (ccap dcap : Nat) (hA : DeltaOf A o n x y (.slice ca cs.length ccap)) (hE : DeltaOf E o' n' x' y' (.slice da ds.length dcap)) (w : World) (h1 : CmdsIn w ca cs ccap) (h2 : CmdsIn w da ds dcap) (hf : ¬ FewD cs) :
    Calls Try.prog 7 #[.agg A, .agg E] w (Gives (.bool true) w) := by
  obtain ⟨S, hS⟩ := start2 w (deltaO A) (deltaO E)
  have hF := few_any A o n x y ca cs ccap hA S.w (h1.W S)
  rw [decide_eq_false hf] at hF
  have hinf := infoDelta hA
  have hg := S.blocks (w.heap.size, deltaO A) (by simp)
  rw [← hS] at hg
  have HS := Lib.hid hS
  clear hS hA hE h1 h2 hf
  go_enter Try.func7, Try.ntmps7
  go_wp2_with (refine wpList_load_row rfl 25 (.tmp 2) rfl w.heap.size rfl 25 _ (0, 0) _ hg Try.underlying25 rfl hinf ?_)
  rw [HS.out]
  clear hg
  refine (HeldW.call hF).mono ?_
  rintro e _ ⟨rfl, s2, rfl⟩
  go_wp2_with fail
  refine (HeldW.call (alive05_gives _)).mono ?_
  rintro e _ ⟨rfl, s3, rfl⟩
  go_wp2
  go_ret
  exact ⟨rfl, s3.below⟩

set_option maxRecDepth 100000 in
set_option maxHeartbeats 4000000 in
theorem deltaWith_bigB (A E : Array Value) (o n o' n' : Int) (x y x' y' : List Int) (ca da : Option Addr) (cs ds : List Cmd) (ccap dcap : Nat) (hA : DeltaOf A o n x y (.slice ca cs.length ccap)) (hE : DeltaOf E o' n' x' y' (.slice da ds.length dcap)) (w : World) (h1 : CmdsIn w ca cs ccap) (h2 : CmdsIn w da ds dcap) (hf : FewD cs) (hf2 : ¬ FewD ds) :
    Calls Try.prog 7 #[.agg A, .agg E] w (Gives (.bool true) w) := by
  obtain ⟨S, hS⟩ := start2 w (deltaO A) (deltaO E)
  have hF := few_any A o n x y ca cs ccap hA S.w (h1.W S)
  rw [decide_eq_true hf] at hF
  have HF2 := Lib.hid (fun s : HeldW w [(w.heap.size + 1, deltaO E), (w.heap.size, deltaO A)] => few_any E o' n' x' y' da ds dcap hE s.w (h2.W s))
  rw [decide_eq_false hf2] at HF2
  have hinf := infoDelta hA
  have hinfE := infoDelta hE
  have hg := S.blocks (w.heap.size, deltaO A) (by simp)
  rw [← hS] at hg
  have HS := Lib.hid hS
  clear hS hA hE h1 h2 hf hf2
  go_enter Try.func7, Try.ntmps7
  go_wp2_with (refine wpList_load_row rfl 25 (.tmp 2) rfl w.heap.size rfl 25 _ (0, 0) _ hg Try.underlying25 rfl hinf ?_)
  rw [HS.out]
  clear hg
  refine (HeldW.call hF).mono ?_
  rintro e _ ⟨rfl, s2, rfl⟩
  have hg := s2.blocks (w.heap.size + 1, deltaO E) (by simp)
  go_wp2_with (refine wpList_load_rowG rfl 25 (.tmp 3) rfl (some 10) rfl (w.heap.size + 1) rfl 25 _ (0, 0) _ hg Try.underlying25 rfl hinfE ?_)
  clear hg
  refine (HeldW.call (HF2.out s2)).mono ?_
  rintro e _ ⟨rfl, s3, rfl⟩
  go_wp2_with fail
  refine (HeldW.call (alive05_gives _)).mono ?_
  rintro e _ ⟨rfl, s4, rfl⟩
  go_wp2
  go_ret
  exact ⟨rfl, s4.below⟩

set_option maxRecDepth 100000 in
set_option maxHeartbeats 8000000 in
theorem deltaWith_good (A E : Array Value) (o n o' n' : Int) (x y x' y' : List Int) (ca da : Option Addr) (cs ds : List Cmd) (ccap dcap : Nat) (hA : DeltaOf A o n x y (.slice ca cs.length ccap)) (hE : DeltaOf E o' n' x' y' (.slice da ds.length dcap)) (w : World) (h1 : CmdsIn w ca cs ccap) (h2 : CmdsIn w da ds dcap) (hf : FewD cs) (hf2 : FewD ds) :
    Calls Try.prog 7 #[.agg A, .agg E] w (Gives (.bool true) w) := by
  obtain ⟨S, hS⟩ := start2 w (deltaO A) (deltaO E)
  have hF := few_any A o n x y ca cs ccap hA S.w (h1.W S)
  rw [decide_eq_true hf] at hF
  have HF2 := Lib.hid (fun s : HeldW w [(w.heap.size + 1, deltaO E), (w.heap.size, deltaO A)] => few_any E o' n' x' y' da ds dcap hE s.w (h2.W s))
  rw [decide_eq_true hf2] at HF2
  have HW := Lib.hid (fun s : HeldW w [(w.heap.size + 1, deltaO E), (w.heap.size, deltaO A)] => dwith_any A o n x y _ da ds dcap hA s.w (h2.W s) (by have := hf2.2; omega) (fun c hc => by have := hf2.1 c hc; omega))
  have hinf := infoDelta hA
  have hinfE := infoDelta hE
  have hg := S.blocks (w.heap.size, deltaO A) (by simp)
  rw [← hS] at hg
  have HS := Lib.hid hS
  have HA := Lib.hid hA
  have HE := Lib.hid hE
  have H1 := Lib.hid h1
  have H2 := Lib.hid h2
  have hz := zero_delta
  clear hS hA hE h1 h2 hf hf2
  go_enter Try.func7, Try.ntmps7
  go_wp2_with (refine wpList_load_row rfl 25 (.tmp 2) rfl w.heap.size rfl 25 _ (0, 0) _ hg Try.underlying25 rfl hinf ?_)
  rw [HS.out]
  clear hg
  refine (HeldW.call hF).mono ?_
  rintro e _ ⟨rfl, s2, rfl⟩
  clear hF
  have hg := s2.blocks (w.heap.size + 1, deltaO E) (by simp)
  go_wp2_with (refine wpList_load_rowG rfl 25 (.tmp 3) rfl (some 10) rfl (w.heap.size + 1) rfl 25 _ (0, 0) _ hg Try.underlying25 rfl hinfE ?_)
  clear hg
  refine (HeldW.call (HF2.out s2)).mono ?_
  rintro e _ ⟨rfl, s3, rfl⟩
  clear s2
  have hg := s3.blocks (w.heap.size, deltaO A) (by simp)
  have e66 := (delta_held HE.out s3 (w.heap.size + 1) (by simp)).2.2
  go_wp2_with (refine wpList_load_row rfl 25 (.tmp 2) rfl w.heap.size rfl 25 _ (0, 0) _ hg Try.underlying25 rfl hinf ?_)
  clear hg e66
  refine (HW.out s3).mono ?_
  rintro e _ ⟨X, g, es, rfl, hX, hes, hco, hbl⟩
  obtain ⟨s4, hs4⟩ := s3.after hbl
  rw [hs4] at hes ⊢
  clear hs4 hbl s3
  have hgN : (s4.w.alloc (deltaO zeroDel)).heap[s4.w.heap.size]? = some (deltaO zeroDel) := heap_new _ _ rfl
  have hinfX := infoDelta hX
  have honeX := hX.one rfl
  have hszX : zeroDel.size = X.size := by rw [zeroDel_of.size, hX.size]
  have HX := Lib.hid hX
  have HES := Lib.hid hes
  have HCO := Lib.hid hco
  clear hX hes hco
  go_wp2_with (refine wpList_store_rowTo rfl 25 (.tmp 5) (.tmp 18) rfl rfl s4.w.heap.size X rfl rfl 25 zeroDel hgN hinfX hszX honeX ?_; rw [World.setRow_alloc_new])
  obtain ⟨B, s5, hB, hB0, _, hS5⟩ := s4.more1 (deltaO X)
  have hes5 : CmdsIn s5.w (some ⟨g, 0, none⟩) es es.length := HES.out.below (by rw [← hS5]; exact (Below.refl _ _).alloc (Nat.le_refl _) _)
  rw [hS5, ← hB]
  have HW5 := Lib.hid s5.below
  have hcs5 := H1.out.W s5
  have hds5 := H2.out.W s5
  clear hS5 hB HES hgN HW HF2 HS hz honeX hszX hinfX hinf hinfE s4
  obtain ⟨R, hR⟩ : ∃ R : HeldW s5.w [(B, deltaO X), (w.heap.size + 1, deltaO E), (w.heap.size, deltaO A)], s5.w = R.w := ⟨s5.rebase, rfl⟩
  obtain ⟨Y, hY⟩ : ∃ Y, Y = deltaA o n x y (.slice da ds.length dcap) := ⟨_, rfl⟩
  have hYD : DeltaOf Y o n x y (.slice da ds.length dcap) := ⟨hY, HA.out.xl, HA.out.yl⟩
  have c2 := fun s : HeldW s5.w [(B, deltaO X), (w.heap.size + 1, deltaO E), (w.heap.size, deltaO A)] => rwith_eq A o n x y _ da ds.length dcap HA.out s.w
  have c3 := fun s : HeldW s5.w [(B, deltaO X), (w.heap.size + 1, deltaO E), (w.heap.size, deltaO A)] => rdsame_any X Y o n o n x y x y _ da es ds _ dcap HX.out hYD s.w (hes5.W s) (hds5.W s)
  have c4 := fun s : HeldW s5.w [(B, deltaO X), (w.heap.size + 1, deltaO E), (w.heap.size, deltaO A)] => dsame_any A E o n o' n' x y x' y' ca da cs ds ccap dcap HA.out HE.out s.w (hcs5.W s) (hds5.W s)
  have c5 := fun s : HeldW s5.w [(B, deltaO X), (w.heap.size + 1, deltaO E), (w.heap.size, deltaO A)] => rdsame_any A E o n o' n' x y x' y' ca da cs ds ccap dcap HA.out HE.out s.w (hcs5.W s) (hds5.W s)
  have c6 := fun s : HeldW s5.w [(B, deltaO X), (w.heap.size + 1, deltaO E), (w.heap.size, deltaO A)] => dsame_any A A o n o n x y x y ca ca cs cs ccap ccap HA.out HA.out s.w (hcs5.W s) (hcs5.W s)
  have c7 := fun s : HeldW s5.w [(B, deltaO X), (w.heap.size + 1, deltaO E), (w.heap.size, deltaO A)] => dsame_any X A o n o n x y x y _ ca es cs _ ccap HX.out HA.out s.w (hes5.W s) (hcs5.W s)
  have c8 := fun s : HeldW s5.w [(B, deltaO X), (w.heap.size + 1, deltaO E), (w.heap.size, deltaO A)] => all_any ca da cs ds ccap dcap s.w (hcs5.W s) (hds5.W s)
  rw [← hY] at c2
  rw [sameD_cores HCO.out] at c3
  rw [sameD_refl] at c6
  rw [sameD_cmds o n x y es ds cs HCO.out] at c7
  generalize sameD o n x y cs o' n' x' y' ds = r at c4 c5
  generalize decide (cores cs = cores ds) = q at c7 c8
  have lX := fun s : HeldW s5.w [(B, deltaO X), (w.heap.size + 1, deltaO E), (w.heap.size, deltaO A)] => load_delta HX.out (s.blocks (B, deltaO X) (by simp))
  have lE := fun s : HeldW s5.w [(B, deltaO X), (w.heap.size + 1, deltaO E), (w.heap.size, deltaO A)] => load_delta HE.out (s.blocks (w.heap.size + 1, deltaO E) (by simp))
  have lA := fun s : HeldW s5.w [(B, deltaO X), (w.heap.size + 1, deltaO E), (w.heap.size, deltaO A)] => load_delta HA.out (s.blocks (w.heap.size, deltaO A) (by simp))
  have e66 := fun s : HeldW s5.w [(B, deltaO X), (w.heap.size + 1, deltaO E), (w.heap.size, deltaO A)] => (delta_held HE.out s (w.heap.size + 1) (by simp)).2.2
  have a66 := fun s : HeldW s5.w [(B, deltaO X), (w.heap.size + 1, deltaO E), (w.heap.size, deltaO A)] => (delta_held HA.out s w.heap.size (by simp)).2.2
  have LX := Lib.hid lX
  have LE := Lib.hid lE
  have LA := Lib.hid lA
  have C2 := Lib.hid c2
  have C3 := Lib.hid c3
  have C4 := Lib.hid c4
  have C5 := Lib.hid c5
  have C6 := Lib.hid c6
  have C7 := Lib.hid c7
  have C8 := Lib.hid c8
  clear c2 c3 c4 c5 c6 c7 c8 lX lE lA hY hYD hes5 hcs5 hds5 H1 H2 HA HE HX HCO
  rw [hR]
  clear hR
  refine wp_region_class _ _ (by kernel_rfl) (by kernel_rfl) R.below R.blocks (fun hne => ?_)
  repeat (first
    | (refine quiet_load 25 (.tmp 5) (.agg X) R.w ⟨R, rfl⟩ (by rintro _ ⟨s, rfl⟩; exact LX.out s) ?_; go_big_quiet_step (fail))
    | (refine quiet_load 25 (.tmp 2) (.agg A) R.w ⟨R, rfl⟩ (by rintro _ ⟨s, rfl⟩; exact LA.out s) ?_; go_big_quiet_step (fail))
    | (refine quiet_load 25 (.tmp 3) (.agg E) R.w ⟨R, rfl⟩ (by rintro _ ⟨s, rfl⟩; exact LE.out s) ?_; go_big_quiet_step (fail))
    | go_big_quiet_step (first
      | (go_at_call 10; exact HeldW.call (alive05_gives _))
      | (go_at_call 21; exact HeldW.call (C2.out _))
      | (go_at_call 26; exact HeldW.call (C8.out _))
      | (go_at_call_of 20 Y; exact HeldW.call (C3.out _))
      | (go_at_call 20; exact HeldW.call (C5.out _))
      | (go_at_call_of 25 E; exact HeldW.call (C4.out _))
      | (go_at_call_of 25 X; exact HeldW.call (C7.out _))
      | (go_at_call 25; exact HeldW.call (C6.out _))))
  refine wpQuiet_nil ?_
  rintro _ ⟨s6, rfl⟩
  clear hne e66 a66
  go_wp2
  go_ret
  exact ⟨by simp, HW5.out.trans (s6.below.mono HW5.out.size)⟩

theorem deltaWith_walk (o n : Int) (x y : List Int) (ca : Option Addr) (cs : List Cmd) (ccap : Nat) (o' n' : Int) (x' y' : List Int) (da : Option Addr) (ds : List Cmd) (dcap : Nat) {w : World} (_ : I64 o) (_ : I64 n) (hx : x.length = 32) (hy : y.length = 32) (h1 : CmdsIn w ca cs ccap) (_ : I64 o') (_ : I64 n') (hx' : x'.length = 32) (hy' : y'.length = 32) (h2 : CmdsIn w da ds dcap) :
    Calls Try.prog 7 #[.agg (deltaA o n x y (.slice ca cs.length ccap)), .agg (deltaA o' n' x' y' (.slice da ds.length dcap))] w (Gives (.bool true) w) := by
  have hA : DeltaOf (deltaA o n x y (.slice ca cs.length ccap)) o n x y (.slice ca cs.length ccap) := ⟨rfl, hx, hy⟩
  have hE : DeltaOf (deltaA o' n' x' y' (.slice da ds.length dcap)) o' n' x' y' (.slice da ds.length dcap) := ⟨rfl, hx', hy'⟩
  by_cases hf : FewD cs
  · by_cases hf2 : FewD ds
    · exact deltaWith_good _ _ o n o' n' x y x' y' ca da cs ds ccap dcap hA hE w h1 h2 hf hf2
    · exact deltaWith_bigB _ _ o n o' n' x y x' y' ca da cs ds ccap dcap hA hE w h1 h2 hf hf2
  · exact deltaWith_bigA _ _ o n o' n' x y x' y' ca da cs ds ccap dcap hA hE w h1 h2 hf
end Go.Proofs.Ytifdeeaoaekokaa
