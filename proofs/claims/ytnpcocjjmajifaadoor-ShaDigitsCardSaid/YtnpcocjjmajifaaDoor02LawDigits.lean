/- ShaDigits returns true for all digests and all strings, and changes nothing that was there. -/
import Derived.Test.YtnpcocjjmajifaaDoor02LawParts
import Derived.Test.YtnpcocjjmajifaaDoor02RFormat
namespace Go.Proofs.YtnpcocjjmajifaaDoor
open Go.RowKit
set_option linter.unusedVariables false

/-- A wanted operation of a region in the text's order, and the whole-array load and the build as such. -/
theorem wpList_wanted {P : Program} {ops : Array Oper} {rest : List Oper} {o : Oper} {a : Act} {w : World} {Q : Exit → Act → World → Prop} (hw : Region.wanted o (yielded ops a.tmps) = true)
    (h : ∀ K : Act → World → Prop, (∀ a w, wpList P ops Q rest a w → K a w) → o.wp P a w K Q) : wpList P ops Q (o :: rest) a w :=
  wpList_step fun K hK => by rw [if_pos hw]; exact h K hK
theorem wpList_load_rowG {P : Program} {ops : Array Oper} {rest : List Oper} {o : Oper} {a : Act} {w : World} {Q : Exit → Act → World → Prop} (hgd : Region.wanted o (yielded ops a.tmps) = true) (ty : TypeId) (x : Operand) (ho : o.op = .load ty x)
    (d0 : Option Tmp) (hdst : o.dst = d0) (g : Nat) (hx : a.eval x = .pointer (some ⟨g, 0, none⟩)) (t : TypeId) (cs : Array Value) (fr : Nat × Nat) (d : TypeDesc) (hg : w.heap[g]? = some (.cells cs t fr))
    (hu : P.underlying ty = some d) (hd : (match d with | .struct _ | .array _ _ => true | _ => false) = true) (hi : (P.info? ty).map (·.size) = some cs.size)
    (h : wpList P ops Q rest (a.put d0 (.agg cs)) w) : wpList P ops Q (o :: rest) a w := by
  subst hdst
  exact wpList_wanted hgd fun _ hK => wp_load_row ty x ho g hx t cs fr d hg hu hd hi (hK _ _ h)
theorem wpList_buildToG {P : Program} {ops : Array Oper} {rest : List Oper} {o : Oper} {a : Act} {w : World} {Q : Exit → Act → World → Prop} (hg : Region.wanted o (yielded ops a.tmps) = true) (t : TypeId) (parts : Array (Nat × Operand)) (ho : o.op = .build t parts)
    (d : Option Tmp) (hd : o.dst = d) (cells : Array Value) (hf : P.built t (parts.map fun (i, x) => (i, a.eval x)).toList = some cells)
    (h : wpList P ops Q rest (a.put d (.agg cells)) w) : wpList P ops Q (o :: rest) a w := by
  subst hd
  exact wpList_wanted hg fun _ hK => wp_build t parts ho (by rw [hf]; rfl) (by rw [hf]; exact hK _ _ h)

theorem digits_big (D : List Int) (s : ByteArray) (hs : 300 < s.size) (hmax : s.size ≤ 9223372036854775807) (w : World) (hR : Roots w) : Calls Tryd.prog 7 #[.agg (byteA D), .string s] w (Gives (.bool true) w) := by
  obtain ⟨s0, hs0⟩ : ∃ s0 : HeldW w [(w.heap.size, .cells (byteA D) 24 (0, 0))], w.alloc (.cells (byteA D) 24) = s0.w := ⟨(HeldW.start w).push (.cells (byteA D) 24 (0, 0)), rfl⟩
  have ha := alive_any s0.w (Roots.below hR s0.below)
  rw [← hs0] at ha
  have HS := Lib.hid hs0
  have d1 : decide ((300 : Int) < s.size) = true := by simp; omega
  clear hR hs0
  go_enter Tryd.func7, Tryd.ntmps7
  go_wp2_with fail
  rw [show w.alloc (.cells (byteA D) 24) = s0.w from HS.out] at ha ⊢
  refine (HeldW.call (s := s0) ha).mono ?_
  rintro e _ ⟨rfl, s1, rfl⟩
  clear ha
  go_wp2
  go_ret
  exact ⟨rfl, s1.below⟩

set_option maxRecDepth 100000 in
set_option maxHeartbeats 16000000 in
theorem digits_small (D : List Int) (hD : D.length = 32) (hb : ∀ i, i < 32 → 0 ≤ D[i]?.getD 0 ∧ D[i]?.getD 0 < 256) (s : ByteArray) (hs : s.size ≤ 300) (w : World) (hR : Roots w)
    (X : ByteArray) (hF : ∀ w, Calls Tryd.prog 18 #[.agg (byteA D)] w (Gives (.string X) w)) (hRF : ∀ w, Calls Tryd.prog 19 #[.agg (byteA D)] w (Gives (.string X) w))
    (hP : ∀ w, Calls Tryd.prog 17 #[.string X] w (Gives (.tuple #[.agg (byteA D), .bool true]) w))
    (G : List Int) (r : Bool) (hG : G.length = 32) (hP2 : ∀ w, Calls Tryd.prog 17 #[.string s] w (Gives (.tuple #[.agg (byteA G), .bool r]) w))
    (hRR : ∀ w, Calls Tryd.prog 20 #[.string s] w fun e w' => e = .returned (.bool r) ∧ w' = w)
    (hyes : r = true → ∀ w, Calls Tryd.prog 18 #[.agg (byteA G)] w (Gives (.string s) w)) (hno : r = false → G = zeroD) : Calls Tryd.prog 7 #[.agg (byteA D), .string s] w (Gives (.bool true) w) := by
  have HR := Lib.hid hR
  have HY := Lib.hid hyes
  have HNO := Lib.hid hno
  have HD := Lib.hid hD
  have HG := Lib.hid hG
  have HP2 := Lib.hid hP2
  have HRR := Lib.hid hRR
  have HRF := Lib.hid hRF
  have HP := Lib.hid hP
  have HF := Lib.hid hF
  obtain ⟨wb, s0, hwb, hs0, hge⟩ : ∃ (wb : Nat) (s0 : HeldW w [(wb, .cells (byteA D) 24 (0, 0))]), wb = w.heap.size ∧ w.alloc (.cells (byteA D) 24) = s0.w ∧ w.heap.size ≤ wb := ⟨w.heap.size, (HeldW.start w).push (.cells (byteA D) 24 (0, 0)), rfl, rfl, Nat.le_refl _⟩
  have HS := Lib.hid hs0
  have HW := Lib.hid hwb
  have d1 : decide ((300 : Int) < s.size) = false := by simp; omega
  have hld0 := s0.blocks (wb, .cells (byteA D) 24 (0, 0)) (by simp)
  have hinf : (Tryd.prog.info? 24).map (·.size) = some (byteA D).size := by rw [byteA_size, hD]; kernel_rfl
  have hld : (w.alloc (.cells (byteA D) 24)).heap[w.heap.size]? = some (.cells (byteA D) 24 (0, 0)) := by rw [hs0, ← hwb]; exact hld0
  clear hR hs0 hwb hyes hno hD hG hP2 hRR hRF hP hF hb hld0
  go_enter Tryd.func7, Tryd.ntmps7
  go_wp2_with (refine wpList_load_row rfl 24 (.tmp 2) rfl w.heap.size rfl 24 _ (0, 0) _ hld Tryd.underlying24 rfl hinf ?_)
  rw [show w.alloc (.cells (byteA D) 24) = s0.w from HS.out, show w.heap.size = wb from HW.out.symm]
  clear hld
  refine (HeldW.call (s := s0) (HF.out s0.w)).mono ?_
  rintro e _ ⟨rfl, s1, rfl⟩
  clear s0 HS HW
  go_wp2_with fail
  refine (HeldW.call (s := s1) (HP.out s1.w)).mono ?_
  rintro e _ ⟨rfl, s2, rfl⟩
  clear s1
  have hn := heap_new s2.w (.cells zero32 24 (0, 0)) rfl
  have hsr : zero32.size = (byteA D).size := by rw [byteA_size, HD.out]; rfl
  have hone := byteA_one D
  go_wp2_with (refine wpList_store_rowTo rfl 24 (.tmp 5) (.tmp 17) rfl rfl s2.w.heap.size (byteA D) rfl rfl 24 zero32 hn hinf hsr hone ?_)
  rw [World.setRow_alloc_new]
  obtain ⟨w5, s3, hs3, hne5⟩ : ∃ (w5 : Nat) (s3 : HeldW w [(w5, .cells (byteA D) 24 (0, 0)), (wb, .cells (byteA D) 24 (0, 0))]), (w5 = s2.w.heap.size ∧ s2.w.alloc (.cells (byteA D) 24 (0, 0)) = s3.w) ∧ w5 ≠ wb :=
    ⟨s2.w.heap.size, s2.push (.cells (byteA D) 24 (0, 0)), ⟨rfl, rfl⟩, by have := (Array.getElem?_eq_some_iff.1 (s2.blocks (wb, _) List.mem_cons_self)).1; omega⟩
  rw [hs3.2, ← hs3.1]
  clear hs3 hn hsr hone s2
  refine (HeldW.call (s := s3) (HP2.out s3.w)).mono ?_
  rintro e _ ⟨rfl, s4, rfl⟩
  clear s3
  have hn := heap_new s4.w (.cells zero32 24 (0, 0)) rfl
  have hinfG : (Tryd.prog.info? 24).map (·.size) = some (byteA G).size := by rw [byteA_size, HG.out]; kernel_rfl
  have hsr : zero32.size = (byteA G).size := by rw [byteA_size, HG.out]; rfl
  have hone := byteA_one G
  go_wp2_with (refine wpList_store_rowTo rfl 24 (.tmp 7) (.tmp 22) rfl rfl s4.w.heap.size (byteA G) rfl rfl 24 zero32 hn hinfG hsr hone ?_)
  rw [World.setRow_alloc_new]
  obtain ⟨w7, s5, hs5⟩ : ∃ (w7 : Nat) (s5 : HeldW w [(w7, .cells (byteA G) 24 (0, 0)), (w5, .cells (byteA D) 24 (0, 0)), (wb, .cells (byteA D) 24 (0, 0))]), w7 = s4.w.heap.size ∧ s4.w.alloc (.cells (byteA G) 24 (0, 0)) = s5.w :=
    ⟨s4.w.heap.size, s4.push (.cells (byteA G) 24 (0, 0)), rfl, rfl⟩
  rw [hs5.2, ← hs5.1]
  clear hs5 hn hsr hone s4
  have hl2 := fun (s : HeldW w [(w7, .cells (byteA G) 24 (0, 0)), (w5, .cells (byteA D) 24 (0, 0)), (wb, .cells (byteA D) 24 (0, 0))]) => load_arr D HD.out (s.blocks (wb, .cells (byteA D) 24 (0, 0)) (by simp))
  have hl5 := fun (s : HeldW w [(w7, .cells (byteA G) 24 (0, 0)), (w5, .cells (byteA D) 24 (0, 0)), (wb, .cells (byteA D) 24 (0, 0))]) => load_arr D HD.out (s.blocks (w5, .cells (byteA D) 24 (0, 0)) (by simp))
  have heq := equal_same D HD.out
  have hgt := guard_arr
  clear hinf hinfG
  refine wp_region_class _ _ (by kernel_rfl) (by kernel_rfl) s5.below s5.blocks (fun hne => ?_)
  repeat (first | (refine quiet_load 24 (.tmp 2) (.agg (byteA D)) s5.w ⟨s5, rfl⟩ (by rintro _ ⟨s, rfl⟩; exact hl2 s) ?_; go_big_quiet_step (fail)) | (refine quiet_load 24 (.tmp 5) (.agg (byteA D)) s5.w ⟨s5, rfl⟩ (by rintro _ ⟨s, rfl⟩; exact hl5 s) ?_; go_big_quiet_step (fail)) | go_big_quiet_step (first | (go_at_call 18; exact HeldW.call (HF.out _)) | (go_at_call 19; exact HeldW.call (HRF.out _)) | (go_at_call 20; exact HeldW.call (gives_same (HRR.out _)))))
  clear s5
  refine wpQuiet_nil ?_
  rintro _ ⟨s6, rfl⟩
  clear hl2 hl5 heq
  have hal := alive_any s6.w (HR.out.W s6)
  go_wp2_with fail
  refine (HeldW.call (s := s6) hal).mono ?_
  rintro e _ ⟨rfl, s7, rfl⟩
  clear hal s6
  have hinfG : (Tryd.prog.info? 24).map (·.size) = some (byteA G).size := by rw [byteA_size, HG.out]; kernel_rfl
  have h7 := s7.blocks (w7, .cells (byteA G) 24 (0, 0)) (by simp)
  cases r with
  | true =>
    have hfg := HY.out rfl
    go_wp2_with (refine wpList_load_rowG rfl 24 (.tmp 7) rfl (some 48) rfl w7 rfl 24 _ (0, 0) _ h7 Tryd.underlying24 rfl hinfG ?_)
    refine (HeldW.call (s := s7) (hfg s7.w)).mono ?_
    rintro e _ ⟨rfl, s8, rfl⟩
    clear h7 hfg
    go_wp2
    go_ret
    exact ⟨rfl, s8.below⟩
  | false =>
    obtain rfl := HNO.out rfl
    have heq := equal_same zeroD rfl
    clear HNO HY HP2
    go_wp2_with (first
      | (refine wpList_load_rowG rfl 24 (.tmp 7) rfl (some 57) rfl w7 rfl 24 _ (0, 0) _ h7 Tryd.underlying24 rfl hinfG ?_)
      | (refine wpList_buildToG rfl 24 _ rfl (some 58) rfl (byteA zeroD) (by kernel_rfl) ?_))
    go_ret
    exact ⟨rfl, s7.below⟩

theorem shaDigits_walk (D : List Int) (s : ByteArray) (w : World) (hR : Roots w) (hD : D.length = 32) (hb : ∀ i, i < 32 → 0 ≤ D[i]?.getD 0 ∧ D[i]?.getD 0 < 256) (hmax : s.size ≤ maxLen) : Calls Tryd.prog 7 #[.agg (byteA D), .string s] w (Gives (.bool true) w) := by
  by_cases h : s.size ≤ 300
  · have hbm : ∀ b ∈ D, 0 ≤ b ∧ b < 256 := fun b hbm => by
      obtain ⟨j, hj, rfl⟩ := List.mem_iff_getElem.1 hbm
      have := hb j (by omega)
      rw [List.getElem?_eq_getElem hj] at this
      exact this
    have hch : chars (strOf (hexL D)) = hexL D := chars_strOf _ (fun c hc => ⟨(hexL_bd D hbm c hc).1, (hexL_bd D hbm c hc).2.1⟩)
    refine digits_small D hD hb s h w hR (strOf (hexL D)) (format_any D hD hb) (rformat_any D hD hb) (fun w => ?_) (if rightB (chars s) then parseL (chars s) 32 else zeroD) (rightB (chars s)) ?_ (parse_any s h) (rright_any s h) (fun hr w => ?_) (fun hr => by rw [if_neg (by simp [hr])])
    · have := parse_any (strOf (hexL D)) (by rw [strOf_size, hexL_length]; omega) w
      rw [hch] at this
      rw [parseV_yes (right_hexL D hD hbm), parse_hexL D hD hbm] at this
      exact this
    · split
      · exact parseL_length _ _
      · rfl
    · rw [if_pos hr]
      have := format_any (parseL (chars s) 32) (parseL_length _ _) (parseB_bd _ hr) w
      rw [hexL_parse _ hr, strOf_chars] at this
      exact this
  · exact digits_big D s (by omega) (by unfold maxLen at hmax; omega) w hR
end Go.Proofs.YtnpcocjjmajifaaDoor
