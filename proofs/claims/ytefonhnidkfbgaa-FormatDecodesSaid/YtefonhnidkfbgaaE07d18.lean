import Derived.Test.YtefonhnidkfbgaaE07d16
import Derived.Test.YtefonhnidkfbgaaE07d17
/- Package format: a delta is read, all of it. -/
namespace Go.Proofs.Ytefonhnidkfbgaa
open Go.RowKit
set_option linter.unusedVariables false
set_option linter.unusedSimpArgs false

theorem uintR4_lt {D : List Int} (hD : OkB D) (s : RS) : 0 ≤ (uintR D 4 s).1 ∧ (uintR D 4 s).1 < 4294967296 := by
  by_cases h : (uintR D 4 s).2.c = 0
  · have := (uintR_enc4 hD h).2.2.2.2
    rw [pow_4] at this
    exact this
  · have h0 : (uintR D 4 s).1 = 0 := by
      unfold uintR at h ⊢
      by_cases h0 : s.c ≠ 0
      · rw [if_pos h0]
      · rw [if_neg h0] at h ⊢
        by_cases h1 : ¬ (1 ≤ (4 : Int) ∧ (4 : Int) ≤ 8)
        · rw [if_pos h1]
        · rw [if_neg h1] at h ⊢
          by_cases h2 : (D.length : Int) - s.n < 4
          · rw [if_pos h2]
          · rw [if_neg h2] at h; simp at h
    omega
/-- What delta hands back. -/
def DeltaRd (g : Nat) (da : Option Addr) (dcap : Nat) (D : List Int) (hh : Head7) (q : List Core7 × RS) (w : World) (e : Ending) (w' : World) : Prop :=
  ∃ (cs : List Cmd) (a : Option Addr) (cap : Nat), e = .returned (.agg (deltaA hh.o hh.n (pick32 zeros32 hh.x) (pick32 zeros32 hh.y) (.slice a cs.length cap))) ∧ But g w.heap.size w w' ∧ w'.heap[g]? = some (rsO q.2 D.length da dcap) ∧ CmdsIn w' a cs cap ∧ AptCmds w.heap.size a cs ∧ cores cs = q.1
theorem DX.cmds {w : World} {g : Nat} {D : List Int} {da : Option Addr} {dcap : Nat} {s : RS} {A : Array Value} {P : Program} {f : FuncId} {args : Array Value} {q : List Core7 × RS} {S : DX w g D da dcap s A} (hg : g < w.heap.size) (hc : Calls P f args S.w (CmdsPost g da dcap D q S.w)) :
    Calls P f args S.w fun e w'' => ∃ (cs : List Cmd) (a : Option Addr) (cap : Nat), e = .returned (.slice a cs.length cap) ∧ ∃ S' : DX w g D da dcap q.2 A, w'' = S'.w ∧ CmdsIn S'.w a cs cap ∧ AptCmds (w.heap.size + 1 + 1 + 1) a cs ∧ cores cs = q.1 :=
  hc.mono fun _ w'' ⟨cs, a, cap, he, hb, ho, hC, hA, hco⟩ => by
    have h2 := (Array.getElem?_eq_some_iff.1 (S.blocks (w.heap.size + 1 + 1, deltaO A) (by simp))).1
    refine ⟨cs, a, cap, he, ⟨w'', S.but.trans (hb.mono S.but.size), List.forall_mem_cons.2 ⟨ho, fun p hp => ?_⟩⟩, rfl, hC, hA.mono (by simp only at h2; omega), hco⟩
    have h1 := S.blocks p (List.mem_cons_of_mem _ hp)
    exact (hb.block _ (Array.getElem?_eq_some_iff.1 h1).1 (DX.hne hg p hp)).trans h1

set_option maxRecDepth 100000 in
set_option maxHeartbeats 8000000 in
theorem delta_any7 (g dcap : Nat) (da : Option Addr) (D : List Int) (w : World) (h : RdAt w g da dcap D ⟨0, 0, 0⟩) (okD : OkB D) :
    Calls Try.prog 11 #[.agg #[.pointer (some ⟨g, 0, none⟩)]] w (DeltaRd g da dcap D (headR D (s2P D)) (cmdsR D (s2P D)) w) := by
  have hgl := (Array.getElem?_eq_some_iff.1 h.rd).1
  have hz := zero_delta
  obtain ⟨S0, hS0⟩ : ∃ S : DX w g D da dcap ⟨0, 0, 0⟩ zeroDel, ((w.alloc (frdO g)).alloc (deltaO zeroDel)).alloc (deltaO zeroDel) = S.w :=
    ⟨⟨_, But.of_below ((((Below.refl _ w).alloc (Nat.le_refl _) _).alloc (by simp) _).alloc (by simp; omega) _), fun p hp => by
      simp only [List.mem_cons, List.not_mem_nil, or_false] at hp
      rcases hp with rfl | rfl | rfl | rfl
      · exact heap_old (heap_old (heap_old h.rd _) _) _
      · exact heap_old (heap_old (heap_new w _ rfl) _) _
      · exact heap_old (heap_new _ _ (by simp)) _
      · exact heap_new _ _ (by simp)⟩, rfl⟩
  obtain ⟨S1, hS1⟩ := S0.later (w' := S0.w.alloc (.cells #[.int .u8 71, .int .u8 82, .int .u8 70, .int .u8 84] 5 (4, 5))) ((Below.refl _ _).alloc (Nat.le_refl _) _)
  have hS01 : (((w.alloc (frdO g)).alloc (deltaO zeroDel)).alloc (deltaO zeroDel)).alloc (.cells #[.int .u8 71, .int .u8 82, .int .u8 70, .int .u8 84] 5 (4, 5)) = S1.w := by rw [hS0, hS1]
  have HS1 := Lib.hid hS01
  have e3 : S0.w.heap.size = w.heap.size + 1 + 1 + 1 := by rw [← hS0]; simp
  have hlit : BytesIn S1.w (some ⟨w.heap.size + 1 + 1 + 1, 0, none⟩) [71, 82, 70, 84] 4 := bytes_lit (l := [71, 82, 70, 84]) (fr := (4, 5)) (by rw [← hS1, ← e3]; exact World.alloc_heap_new _ _) (by simp)
  have hcv : (convert 22 22 (.slice (some ⟨w.heap.size + 1 + 1 + 1, 0, none⟩) 4 4)).run Try.prog ((((w.alloc (frdO g)).alloc (deltaO zeroDel)).alloc (deltaO zeroDel)).alloc (.cells #[.int .u8 71, .int .u8 82, .int .u8 70, .int .u8 84] 5)) = .ok (.slice (some ⟨w.heap.size + 1 + 1 + 1, 0, none⟩) 4 4) ((((w.alloc (frdO g)).alloc (deltaO zeroDel)).alloc (deltaO zeroDel)).alloc (.cells #[.int .u8 71, .int .u8 82, .int .u8 70, .int .u8 84] 5 (4, 5))) := by
    have := Lib.run_convert_bytes_const (P := Try.prog) (((w.alloc (frdO g)).alloc (deltaO zeroDel)).alloc (deltaO zeroDel)) 22 5 #[.int .u8 71, .int .u8 82, .int .u8 70, .int .u8 84] 4 4 Try.underlying22 Try.underlying5
    simp only [World.size_alloc] at this
    exact this
  have hb := fun (s : RS) (A : Array Value) (S : DX w g D da dcap s A) => bytes_X h.b h.ne S
  have hE1 := DX.puts (S := S1) hgl (wexpect_all g dcap da D [71, 82, 70, 84] _ 4 ⟨0, 0, 0⟩ 9 S1.w (S1.blocks (g, _) (by simp)) (Nat.zero_le _) (hb _ _ S1) hlit okD (fun x hx => by simp at hx; omega))
  have hE2 : Hid (∀ (S : DX w g D da dcap (s1P D) zeroDel) (a : Option Addr), BytesIn S.w a [1] 1 → Calls Try.prog 29 #[.pointer (some ⟨g, 0, none⟩), .slice a 1 1, .int .i64 10] S.w fun e w'' => e = .returned (.bool (expectR D [1] 10 (s1P D)).1) ∧ ∃ S' : DX w g D da dcap (s2P D) zeroDel, w'' = S'.w) := Lib.hid fun S a ha =>
    DX.puts hgl (wexpect_all g dcap da D [1] a 1 (s1P D) 10 S.w (S.blocks (g, _) (by simp)) (s1P_place D).n (hb _ _ S) ha okD (fun x hx => by simp at hx; omega))
  obtain ⟨r1, hr1⟩ : ∃ r, r = lengthR D (s2P D) := ⟨_, rfl⟩
  obtain ⟨r2, hr2⟩ : ∃ r, r = lengthR D r1.2 := ⟨_, rfl⟩
  obtain ⟨r3, hr3⟩ : ∃ r, r = bytesR D 32 r2.2 := ⟨_, rfl⟩
  obtain ⟨r4, hr4⟩ : ∃ r, r = bytesR D 32 r3.2 := ⟨_, rfl⟩
  obtain ⟨r5, hr5⟩ : ∃ r, r = uintR D 4 r4.2 := ⟨_, rfl⟩
  have p1 : PlaceR D r1.2 := by rw [hr1]; exact lengthR_place (s2P_place D)
  have p2 : PlaceR D r2.2 := by rw [hr2]; exact lengthR_place p1
  have p3 : PlaceR D r3.2 := by rw [hr3]; exact bytesR_place _ p2
  have p4 : PlaceR D r4.2 := by rw [hr4]; exact bytesR_place _ p3
  have p5 : PlaceR D r5.2 := by rw [hr5]; exact uintR_place _ p4
  have hL1 : Hid (∀ (A : Array Value) (S : DX w g D da dcap (s2P D) A), Calls Try.prog 30 #[.pointer (some ⟨g, 0, none⟩)] S.w fun e w'' => e = .returned (.int .i64 r1.1) ∧ ∃ S' : DX w g D da dcap r1.2 A, w'' = S'.w) := Lib.hid fun A S => by
    have := wlength_all g dcap da D (s2P D) S.w (S.blocks (g, _) (by simp)) (s2P_place D).n (hb _ _ S)
    rw [← hr1] at this
    exact DX.puts hgl this
  have hL2 : Hid (∀ (A : Array Value) (S : DX w g D da dcap r1.2 A), Calls Try.prog 30 #[.pointer (some ⟨g, 0, none⟩)] S.w fun e w'' => e = .returned (.int .i64 r2.1) ∧ ∃ S' : DX w g D da dcap r2.2 A, w'' = S'.w) := Lib.hid fun A S => by
    have := wlength_all g dcap da D r1.2 S.w (S.blocks (g, _) (by simp)) p1.n (hb _ _ S)
    rw [← hr2] at this
    exact DX.puts hgl this
  have hB1 : Hid (∀ (A : Array Value) (S : DX w g D da dcap r2.2 A), Calls Try.prog 31 #[.pointer (some ⟨g, 0, none⟩), .int .i64 32] S.w fun e w'' => ∃ B C, e = .returned (.slice B r3.1.length C) ∧ ∃ S' : DX w g D da dcap r3.2 A, w'' = S'.w ∧ BytesIn S'.w B r3.1 C) := Lib.hid fun A S => by
    have := wbytes_all g dcap da D r2.2 S.w 32 (S.blocks (g, _) (by simp)) p2.n (hb _ _ S) (by omega)
    rw [← hr3] at this
    exact DX.make hgl this
  have hB2 : Hid (∀ (A : Array Value) (S : DX w g D da dcap r3.2 A), Calls Try.prog 31 #[.pointer (some ⟨g, 0, none⟩), .int .i64 32] S.w fun e w'' => ∃ B C, e = .returned (.slice B r4.1.length C) ∧ ∃ S' : DX w g D da dcap r4.2 A, w'' = S'.w ∧ BytesIn S'.w B r4.1 C) := Lib.hid fun A S => by
    have := wbytes_all g dcap da D r3.2 S.w 32 (S.blocks (g, _) (by simp)) p3.n (hb _ _ S) (by omega)
    rw [← hr4] at this
    exact DX.make hgl this
  have hU : Hid (∀ (A : Array Value) (S : DX w g D da dcap r4.2 A), Calls Try.prog 33 #[.pointer (some ⟨g, 0, none⟩), .int .i64 4] S.w fun e w'' => e = .returned (.int .u64 (r5.1.toNat : Int)) ∧ ∃ S' : DX w g D da dcap r5.2 A, w'' = S'.w) := Lib.hid fun A S => by
    have := wuint_all g dcap da D r4.2 S.w 4 (S.blocks (g, _) (by simp)) p4.n (hb _ _ S)
    rw [← hr5] at this
    rw [Int.toNat_of_nonneg (by rw [hr5]; exact (uintR4_lt okD _).1)]
    exact DX.puts hgl this
  have hC : Hid (∀ (A : Array Value) (S : DX w g D da dcap r5.2 A), Calls Try.prog 32 #[.agg #[.pointer (some ⟨g, 0, none⟩)], .int .u64 (r5.1.toNat : Int)] S.w fun e w'' => ∃ (cs : List Cmd) (a : Option Addr) (cap : Nat), e = .returned (.slice a cs.length cap) ∧ ∃ S' : DX w g D da dcap (itR D ([], r5.2) r5.1.toNat).2 A, w'' = S'.w ∧ CmdsIn S'.w a cs cap ∧ AptCmds (w.heap.size + 1 + 1 + 1) a cs ∧ cores cs = (itR D ([], r5.2) r5.1.toNat).1) := Lib.hid fun A S => by
    have h4 := uintR4_lt okD r4.2
    rw [← hr5] at h4
    exact DX.cmds hgl (commands_any g dcap da D r5.2 r5.1.toNat S.w ⟨S.blocks (g, _) (by simp), hb _ _ S, p5, h.ne, h.len⟩ (by omega) okD)
  have hhead : headR D (s2P D) = ⟨r1.1, r2.1, r3.1, r4.1, r5.1.toNat, r5.2⟩ := by unfold headR; rw [← hr1, ← hr2, ← hr3, ← hr4, ← hr5]
  have hcm : cmdsR D (s2P D) = itR D ([], r5.2) r5.1.toNat := by unfold cmdsR; rw [hhead]
  have hl3 : r3.1.length = 32 ∨ r3.1 = [] := by rw [hr3]; exact bytesR_32 D _
  have hl4 : r4.1.length = 32 ∨ r4.1 = [] := by rw [hr4]; exact bytesR_32 D _
  rw [hcm, hhead]
  have HE1 := Lib.hid hE1
  have HL3 := Lib.hid hl3
  have HL4 := Lib.hid hl4
  have hsl := fun (i : Nat) (W : World) => slice_arr (w.heap.size + 1 + 1) i W
  obtain ⟨POST, hP⟩ : ∃ P, P = DeltaRd g da dcap D ⟨r1.1, r2.1, r3.1, r4.1, r5.1.toNat, r5.2⟩ (itR D ([], r5.2) r5.1.toNat) w := ⟨_, rfl⟩
  have HP := Lib.hid hP
  rw [← hP]
  obtain ⟨q, hq⟩ : ∃ q, q = itR D ([], r5.2) r5.1.toNat := ⟨_, rfl⟩
  rw [← hq] at hC HP
  obtain ⟨N7, hN7⟩ : ∃ N, N = r5.1.toNat := ⟨_, rfl⟩
  rw [← hN7] at hU hC HP
  clear hP hE1 hl3 hl4 hr1 hr2 hr3 hr4 hr5 p1 p2 p3 p4 p5 hb hlit hS1 hS01 hS0 e3 h hhead hcm hq hN7
  go_enter Try.func11, Try.ntmps11
  go_wp2_with fail
  rw [HS1.out]
  refine HE1.out.mono ?_
  rintro e _ ⟨rfl, S2, rfl⟩
  clear hcv hz
  have hp2 := S2.facts.1
  obtain ⟨S3, hS3⟩ := S2.later (w' := S2.w.alloc (.cells #[.int .u8 1] 5 (0, 0))) ((Below.refl _ _).alloc (Nat.le_refl _) _)
  have hone : BytesIn S3.w (some ⟨S2.w.heap.size, 0, none⟩) [1] 1 := bytes_lit (l := [1]) (fr := (0, 0)) (by rw [← hS3]; exact World.alloc_heap_new _ _) (by simp)
  have HS3 := Lib.hid hS3
  clear hS3
  go_wp2_with fail
  rw [HS3.out]
  refine (hE2.out S3 _ hone).mono ?_
  rintro e _ ⟨rfl, S4, rfl⟩
  clear hp2 hone
  have hp4 := S4.facts.1
  go_wp2_with fail
  refine (hL1.out _ S4).mono ?_
  rintro e _ ⟨rfl, S5, rfl⟩
  clear hp4
  obtain ⟨hp5, hf5, hc5⟩ := S5.facts
  have hd5 := hc5 0 (.int .i64 0) rfl
  have hz5 := hf5 0
  obtain ⟨S6, hS6⟩ := S5.set hgl 0 (.int .i64 r1.1) (A' := deltaA r1.1 0 zeros32 zeros32 (.slice none 0 0)) (deltaA_set0 _ _ _ _ _ _)
  have HS6 := Lib.hid hS6
  have hp6 : (S5.w.setCell ⟨w.heap.size + 1 + 1, 0, none⟩ (.int .i64 r1.1)).cell? ⟨w.heap.size, 0, none⟩ = some (.pointer (some ⟨g, 0, none⟩)) := by rw [hS6]; exact S6.facts.1
  clear hS6 hf5 hc5
  go_wp2_with fail
  rw [HS6.out]
  refine (hL2.out _ S6).mono ?_
  rintro e _ ⟨rfl, S7, rfl⟩
  clear hp5 hd5 hz5 hp6
  obtain ⟨hp7, hf7, hc7⟩ := S7.facts
  have hd7 := hc7 1 (.int .i64 0) (by simp [deltaA, deltaL])
  have hz7 := hf7 1
  obtain ⟨S8, hS8⟩ := S7.set hgl 1 (.int .i64 r2.1) (A' := deltaA r1.1 r2.1 zeros32 zeros32 (.slice none 0 0)) (deltaA_set1 _ _ _ _ _ _)
  have HS8 := Lib.hid hS8
  clear hS8 hf7 hc7
  go_wp2_with fail
  rw [HS8.out]
  clear hp7 hd7 hz7
  have hz32 : zeros32.length = 32 := rfl
  have y0 : S8.drawC.w.cell? ⟨w.heap.size, 0, none⟩ = some (.pointer (some ⟨g, 0, none⟩)) := (DX.facts S8.drawC).1
  have hu := hB1.out _ S8.drawC
  go_region_with (go_at_call 31; refine hu.mono ?_; rintro e _ ⟨B, C, rfl, S9, rfl, hB9⟩; obtain ⟨cv, cw, hcp, S10, hS10⟩ := DX.copy (A' := deltaA r1.1 r2.1 (pick32 zeros32 r3.1) zeros32 (.slice none 0 0)) S9 hgl hB9 2 (fun h => by unfold pick32; rw [if_pos h]; exact (deltaA_copy2 _ _ _ _ _ hz32 h _).symm) (fun h => by unfold pick32; rw [if_neg (by rw [h]; simp)]) HL3.out (by simp [deltaA, deltaL, hz32]))
  clear hcp hS10 hB9 y0 hu S9
  have hx32 : (pick32 zeros32 r3.1).length = 32 := pick32_len hz32
  obtain ⟨x, hx⟩ : ∃ x, x = pick32 zeros32 r3.1 := ⟨_, rfl⟩
  rw [← hx] at hx32
  have hS10' : ∃ S : DX w g D da dcap r3.2 (deltaA r1.1 r2.1 x zeros32 (.slice none 0 0)), S10.w = S.w := by rw [hx]; exact ⟨S10, rfl⟩
  obtain ⟨S11, hS11⟩ := hS10'
  rw [hS11]
  clear hS11 S10
  go_wp2_with fail
  have y0 : S11.drawC.w.cell? ⟨w.heap.size, 0, none⟩ = some (.pointer (some ⟨g, 0, none⟩)) := (DX.facts S11.drawC).1
  have hu := hB2.out _ S11.drawC
  go_region_with (go_at_call 31; refine hu.mono ?_; rintro e _ ⟨B', C', rfl, S12, rfl, hB12⟩; obtain ⟨cv', cw, hcp, S13, hS13⟩ := DX.copy (A' := deltaA r1.1 r2.1 x (pick32 zeros32 r4.1) (.slice none 0 0)) S12 hgl hB12 34 (fun h => by unfold pick32; rw [if_pos h]; exact (deltaA_copy34 _ _ _ _ _ hx32 hz32 h _).symm) (fun h => by unfold pick32; rw [if_neg (by rw [h]; simp)]) HL4.out (by simp [deltaA, deltaL, hz32, hx32]))
  clear hcp hS13 hB12 y0 hu S12
  have hy32 : (pick32 zeros32 r4.1).length = 32 := pick32_len hz32
  obtain ⟨y, hy⟩ : ∃ y, y = pick32 zeros32 r4.1 := ⟨_, rfl⟩
  rw [← hy] at hy32
  have hS13' : ∃ S : DX w g D da dcap r4.2 (deltaA r1.1 r2.1 x y (.slice none 0 0)), S13.w = S.w := by rw [hy]; exact ⟨S13, rfl⟩
  obtain ⟨S14, hS14⟩ := hS13'
  rw [hS14]
  clear hS14 S13
  go_wp2_with fail
  have hD14 : DeltaOf (deltaA r1.1 r2.1 x y (.slice none 0 0)) r1.1 r2.1 x y (.slice none 0 0) := ⟨rfl, hx32, hy32⟩
  have h66 := hD14.c66
  have y0 : S14.drawC.w.cell? ⟨w.heap.size, 0, none⟩ = some (.pointer (some ⟨g, 0, none⟩)) := (DX.facts S14.drawC).1
  have hu := hU.out _ S14.drawC
  have H66 := Lib.hid h66
  clear h66
  go_region_with (first
    | (go_at_call 33; refine hu.mono ?_; rintro e _ ⟨rfl, S15, rfl⟩; have y1 := (DX.facts S15).1; have hv := hC.out _ S15)
    | (go_at_call 32; refine hv.mono ?_; rintro e _ ⟨cs, a, cap, rfl, S16, rfl, hcs, hapt, hco⟩; have y2 := (DX.facts S16).1; have y3 := (DX.facts S16).2.1 66; have y4 := (DX.facts S16).2.2 66 _ H66.out))
  all_goals (
    obtain ⟨S17, hS17⟩ := S16.set hgl 66 (.slice a cs.length cap) (A' := deltaA r1.1 r2.1 x y (.slice a cs.length cap)) (deltaA_set66 _ _ _ _ hx32 hy32 _ _)
    have hcs17 : CmdsIn S17.w a cs cap := by
      rw [← hS17]
      exact hcs.above hapt (fun k hk hlt => Below.heap_setCell _ _ _ _ (by simp only; omega))
    rw [hS17]
    clear hS17 y0 y1 y2 y3 y4 hu hv hcs S16 S15
    have hD17 : DeltaOf (deltaA r1.1 r2.1 x y (.slice a cs.length cap)) r1.1 r2.1 x y (.slice a cs.length cap) := ⟨rfl, hx32, hy32⟩
    obtain ⟨A17, hA17⟩ : ∃ A, A = deltaA r1.1 r2.1 x y (.slice a cs.length cap) := ⟨_, rfl⟩
    rw [← hA17] at hD17
    have hg17 : S17.w.heap[w.heap.size + 1 + 1]? = some (deltaO A17) := by rw [hA17]; exact S17.blocks (w.heap.size + 1 + 1, _) (by simp)
    have hg16 : S17.w.heap[w.heap.size + 1]? = some (deltaO zeroDel) := S17.blocks (w.heap.size + 1, deltaO zeroDel) (by simp)
    have hinf := infoDelta hD17
    have hsz : zeroDel.size = A17.size := by rw [zeroDel_of.size, hD17.size]
    have hone := hD17.one rfl
    have hA := Lib.hid hA17
    have hfin : Hid (POST (.returned (.agg A17)) (S17.w.setRow (w.heap.size + 1) A17)) := Lib.hid (by
      rw [HP.out, hA17]
      refine ⟨cs, a, cap, by rw [hx, hy], S17.but.trans ⟨rfl, rfl, rfl, by simp, fun k hk hn => setRow_other _ _ _ _ (by omega)⟩, (setRow_other _ _ _ _ (by omega)).trans (S17.blocks (g, _) (by simp)), hcs17.above hapt (fun k hk hlt => setRow_other _ _ _ _ (by omega)), hapt.mono (by omega), hco⟩)
    clear hA17 hcs17 hapt hco hD17
    go_wp2_with (first
      | (refine wpList_load_row rfl 27 (.tmp 3) rfl (w.heap.size + 1 + 1) rfl 27 _ (0, 0) _ hg17 Try.underlying27 rfl hinf ?_)
      | (refine wpList_store_rowTo rfl 27 (.tmp 2) (.tmp 39) rfl rfl (w.heap.size + 1) A17 rfl rfl 27 zeroDel hg16 hinf hsz hone ?_))
    refine bodyPost_ret (v := .agg A17) ?_ rfl hfin.out
    exact results_cell_row Try.results11 _ _ (w.heap.size + 1) 27 _ (0, 0) _ rfl (setRow_heap _ _ _ _ _ _ hg16) Try.underlying27 rfl hinf)
end Go.Proofs.Ytefonhnidkfbgaa

/- Package format: Decode. -/
namespace Go.Proofs.Ytefonhnidkfbgaa
open Go.RowKit
set_option linter.unusedVariables false
set_option linter.unusedSimpArgs false

theorem results_cell_row2 {P : Program} {fn : Func} {p p' : Tmp} {ty ty' : TypeId} (h : fn.results = #[.cell p ty, .cell p' ty']) (tmps : Array Value) (w : World) (g g' : Nat) (t t' : TypeId) (cs cs' : Array Value) (fr fr' : Nat × Nat) (d d' : TypeDesc)
    (hp : tmps.getD p undef = .pointer (some ⟨g, 0, none⟩)) (hp' : tmps.getD p' undef = .pointer (some ⟨g', 0, none⟩)) (hg : w.heap[g]? = some (.cells cs t fr)) (hg' : w.heap[g']? = some (.cells cs' t' fr'))
    (hu : P.underlying ty = some d) (hd : (match d with | .struct _ | .array _ _ => true | _ => false) = true) (hi : (P.info? ty).map (·.size) = some cs.size)
    (hu' : P.underlying ty' = some d') (hd' : (match d' with | .struct _ | .array _ _ => true | _ => false) = true) (hi' : (P.info? ty').map (·.size) = some cs'.size) :
    (results fn tmps).run P w = .ok (.tuple #[.agg cs, .agg cs']) w := by
  have e1 : tmps[p]?.getD undef = .pointer (some ⟨g, 0, none⟩) := by simpa using hp
  have e2 : tmps[p']?.getD undef = .pointer (some ⟨g', 0, none⟩) := by simpa using hp'
  simp [results, h, e1, e2, asAddr, run_loadVar_row w g t ty cs fr d hg hu hd hi, run_loadVar_row w g' t' ty' cs' fr' d' hg' hu' hd' hi']

theorem setRow_same {w : World} {g : Nat} {cs : Array Value} {t : TypeId} {fr : Nat × Nat} (h : w.heap[g]? = some (.cells cs t fr)) : w.setRow g cs = w := by
  have : (w.setRow g cs).heap = w.heap := by
    apply Array.ext_getElem?
    intro k
    by_cases hk : k = g
    · rw [hk, setRow_heap w g cs cs t fr h, h]
    · exact setRow_other _ _ _ _ hk
  show ({ w with heap := (w.setRow g cs).heap } : World) = w
  rw [this]
theorem noop_store {w : World} {g : Nat} (h : w.heap[g]? = some (.cells zeroDel 27 (0, 0))) : (storeCells ⟨g, 0, none⟩ zeroDel.toList).run Try.prog w = .ok () w := by
  have hone := Array.all_eq_true_iff_forall_mem.1 (zeroDel_of.one rfl)
  have := run_storeCells_from (P := Try.prog) g 27 zeroDel.toList 0 zeroDel w h (by simp) (fun v hv => hone v (by simpa using hv))
  rw [List.take_zero, List.nil_append, Array.toArray_toList, setRow_same h] at this
  exact this

abbrev fltO (c p : Int) : Obj := .cells #[.int .i64 c, .int .i64 p] 30 (0, 0)
abbrev fltA (c p : Int) : Array Value := #[.int .i64 c, .int .i64 p]
theorem fltA_one (c p : Int) : (fltA c p).all (·.oneCell') = true := by simp [Value.oneCell']
theorem fltA_size (c p : Int) : (Try.prog.info? 30).map (·.size) = some (fltA c p).size := by
  show (Try.prog.info? 30).map (·.size) = some 2
  kernel_rfl
/-- What Decode hands back. -/
structure DecRes (D : List Int) (o n : Int) (x y : List Int) (cs : List Cmd) (c p : Int) : Prop where
  xl : x.length = 32
  yl : y.length = 32
  c : c = (endR D).c
  p : p = (endR D).p
  yes : (endR D).c = 0 → o = (headR D (s2P D)).o ∧ n = (headR D (s2P D)).n ∧ x = (headR D (s2P D)).x ∧ y = (headR D (s2P D)).y ∧ cores cs = (cmdsR D (s2P D)).1
  no : (endR D).c ≠ 0 → o = 0 ∧ n = 0 ∧ x = zeros32 ∧ y = zeros32 ∧ cs = []
def DecPost (D : List Int) (w : World) (e : Ending) (w' : World) : Prop :=
  ∃ (o n : Int) (x y : List Int) (cs : List Cmd) (a : Option Addr) (cap : Nat) (c p : Int), e = .returned (.tuple #[.agg (deltaA o n x y (.slice a cs.length cap)), .agg (fltA c p)]) ∧ Below w.heap.size w w' ∧ CmdsIn w' a cs cap ∧ AptCmds w.heap.size a cs ∧ DecRes D o n x y cs c p

/-- The blocks of Decode: the reader, both results. -/
abbrev EB (w : World) (g : Nat) (D : List Int) (da : Option Addr) (dcap : Nat) (s : RS) : List (Nat × Obj) := [(g, rsO s D.length da dcap), (w.heap.size, deltaO zeroDel), (w.heap.size + 1, fltO 0 0)]

theorem pick_of {x : List Int} (h : x.length = 32) : pick32 zeros32 x = x := by unfold pick32; rw [if_pos h]
/-- What the reader's end means for what is handed back. -/
theorem dec_yes {D : List Int} (okD : OkB D) (h : (endR D).c = 0) {cs : List Cmd} (hco : cores cs = (cmdsR D (s2P D)).1) : DecRes D (headR D (s2P D)).o (headR D (s2P D)).n (pick32 zeros32 (headR D (s2P D)).x) (pick32 zeros32 (headR D (s2P D)).y) cs 0 0 := by
  obtain ⟨_, _, hx, hy, hp, _⟩ := enc_dec okD h
  rw [pick_of hx, pick_of hy]
  exact ⟨hx, hy, h.symm, hp.symm, fun _ => ⟨rfl, rfl, rfl, rfl, hco⟩, fun hn => absurd h hn⟩
theorem dec_no {D : List Int} (h : (endR D).c ≠ 0) : DecRes D 0 0 zeros32 zeros32 [] (endR D).c (endR D).p := ⟨rfl, rfl, rfl, rfl, fun h0 => absurd h0 h, fun _ => ⟨rfl, rfl, rfl, rfl, rfl⟩⟩
theorem cmds_none (w : World) : CmdsIn w none [] 0 := ⟨by simp, by omega, fun h => by simp at h, fun c hc => by simp at hc, fun _ => rfl⟩

set_option maxRecDepth 100000 in
set_option maxHeartbeats 8000000 in
theorem decode_any (D : List Int) (a : Option Addr) (cap : Nat) (w : World) (hb : BytesIn w a D cap) (okD : OkB D) (hL : D.length ≤ 1000000000) : Calls Try.prog 5 #[.slice a D.length cap] w (DecPost D w) := by
  obtain ⟨S0, hS0⟩ := start2 w (deltaO zeroDel) (fltO 0 0)
  have HS0 := Lib.hid hS0
  have hz := zero_delta
  have hN := wnew_any D a cap S0.w (hb.W S0) hL
  obtain ⟨POST, hP⟩ : ∃ P, P = DecPost D w := ⟨_, rfl⟩
  have HP := Lib.hid hP
  rw [← hP]
  clear hP hb hS0
  go_enter Try.func5, Try.ntmps5
  go_wp2_with fail
  rw [HS0.out]
  refine hN.mono ?_
  rintro e X ⟨g, da, dcap, rfl, hg, hbX, hr, hD, hne⟩
  clear hN
  have hX : Below w.heap.size w X := S0.below.trans (hbX.mono S0.below.size)
  have x0 : X.heap[w.heap.size]? = some (deltaO zeroDel) := heap_below (S0.blocks (w.heap.size, deltaO zeroDel) (by simp)) hbX
  have x1 : X.heap[w.heap.size + 1]? = some (fltO 0 0) := heap_below (S0.blocks (w.heap.size + 1, fltO 0 0) (by simp)) hbX
  have hgl := (Array.getElem?_eq_some_iff.1 hr).1
  have hl1 := (Array.getElem?_eq_some_iff.1 (S0.blocks (w.heap.size + 1, fltO 0 0) (by simp))).1
  simp only at hl1
  have hgw : w.heap.size + 1 < g := by omega
  obtain ⟨RB, hRB⟩ : ∃ RB, RB = X.heap.size := ⟨_, rfl⟩
  have hXl := (Array.getElem?_eq_some_iff.1 x1).1
  obtain ⟨S1, hS1⟩ : ∃ S : HeldX X g [(g, rsO ⟨0, 0, 0⟩ D.length da dcap), (RB, frdO g), (w.heap.size, deltaO zeroDel), (w.heap.size + 1, fltO 0 0)], X.alloc (frdO g) = S.w := by
    subst hRB
    exact ⟨⟨_, But.of_below ((Below.refl _ X).alloc (Nat.le_refl _) _), all4 (heap_old hr _) (heap_new X _ rfl) (heap_old x0 _) (heap_old x1 _)⟩, rfl⟩
  have HS1 := Lib.hid hS1
  have HRB := Lib.hid hRB
  have hdl := delta_any7 g dcap da D S1.w ⟨S1.blocks (g, _) (by simp), bytes_X hD (fun b o h => (hne b o h).2) S1, ⟨Nat.zero_le _, ⟨by simp, by simp⟩, fun _ => rfl⟩, fun b o h => (hne b o h).2, hL⟩ okD
  have HX := Lib.hid hX
  have hS1l : RB < S1.w.heap.size := (Array.getElem?_eq_some_iff.1 (S1.blocks (RB, frdO g) (by simp))).1
  obtain ⟨q, hq⟩ : ∃ q, q = cmdsR D (s2P D) := ⟨_, rfl⟩
  obtain ⟨hh, hhe⟩ : ∃ hh, hh = headR D (s2P D) := ⟨_, rfl⟩
  rw [← hq, ← hhe] at hdl
  have hqn : q.2.n ≤ D.length := by rw [hq]; exact (itR_place (q := ([], (headR D (s2P D)).s)) (headR_place (s2P_place D)) _).n
  have HQ := Lib.hid hq
  have HHE := Lib.hid hhe
  have HYES := Lib.hid (fun (h : (endR D).c = 0) (cs : List Cmd) (hco : cores cs = q.1) => dec_yes okD h (cs := cs) (by rw [hco, hq]))
  rw [← hhe] at HYES
  clear hS1 hX hr hD hne x0 x1 hbX hq hhe
  go_wp2_with fail
  rw [HS1.out]
  refine hdl.mono ?_
  rintro e W2 ⟨cs, ca, ccap, rfl, hbut, ho, hcs, hapt, hco⟩
  clear hdl
  obtain ⟨S2, rfl⟩ : ∃ S : HeldX X g [(g, rsO q.2 D.length da dcap), (RB, frdO g), (w.heap.size, deltaO zeroDel), (w.heap.size + 1, fltO 0 0)], W2 = S.w := by
    have hk := fun (p : Nat × Obj) (hp : p ∈ [(RB, frdO g), (w.heap.size, deltaO zeroDel), (w.heap.size + 1, fltO 0 0)]) (hpg : p.1 ≠ g) => (hbut.block _ (Array.getElem?_eq_some_iff.1 (S1.blocks p (List.mem_cons_of_mem _ hp))).1 hpg).trans (S1.blocks p (List.mem_cons_of_mem _ hp))
    have := HRB.out
    exact ⟨⟨W2, S1.but.trans (hbut.mono S1.but.size), all4 ho (hk (RB, frdO g) (by simp) (by simp only; omega)) (hk (w.heap.size, deltaO zeroDel) (by simp) (by simp only; omega)) (hk (w.heap.size + 1, fltO 0 0) (by simp) (by simp only; omega))⟩, rfl⟩
  have hxl : (pick32 zeros32 hh.x).length = 32 := pick32_len rfl
  have hyl : (pick32 zeros32 hh.y).length = 32 := pick32_len rfl
  have hDA : DeltaOf (deltaA hh.o hh.n (pick32 zeros32 hh.x) (pick32 zeros32 hh.y) (.slice ca cs.length ccap)) hh.o hh.n (pick32 zeros32 hh.x) (pick32 zeros32 hh.y) (.slice ca cs.length ccap) := ⟨rfl, hxl, hyl⟩
  obtain ⟨A, hA⟩ : ∃ A, A = deltaA hh.o hh.n (pick32 zeros32 hh.x) (pick32 zeros32 hh.y) (.slice ca cs.length ccap) := ⟨_, rfl⟩
  rw [← hA] at hDA ⊢
  have HA := Lib.hid hA
  have hinf := infoDelta hDA
  have hsz : zeroDel.size = A.size := by rw [zeroDel_of.size, hDA.size]
  have hone := hDA.one rfl
  have hnew : (S2.w.alloc (deltaO zeroDel)).heap[S2.w.heap.size]? = some (deltaO zeroDel) := heap_new _ _ rfl
  obtain ⟨DBk, hDBk⟩ : ∃ B, B = S2.w.heap.size := ⟨_, rfl⟩
  have hS2l : RB < S2.w.heap.size := (Array.getElem?_eq_some_iff.1 (S2.blocks (RB, frdO g) (by simp))).1
  obtain ⟨S3, hS3⟩ : ∃ S : HeldX X g [(g, rsO q.2 D.length da dcap), (RB, frdO g), (w.heap.size, deltaO zeroDel), (w.heap.size + 1, fltO 0 0), (DBk, deltaO A)], S2.w.alloc (deltaO A) = S.w := by
    subst hDBk
    refine ⟨⟨_, S2.but.trans (But.of_below ((Below.refl _ S2.w).alloc S2.but.size _)), fun p hp => ?_⟩, rfl⟩
    simp only [List.mem_cons, List.not_mem_nil, or_false] at hp
    rcases hp with rfl | rfl | rfl | rfl | rfl
    · exact heap_old (S2.blocks (g, rsO q.2 D.length da dcap) (by simp)) _
    · exact heap_old (S2.blocks (RB, frdO g) (by simp)) _
    · exact heap_old (S2.blocks (w.heap.size, deltaO zeroDel) (by simp)) _
    · exact heap_old (S2.blocks (w.heap.size + 1, fltO 0 0) (by simp)) _
    · exact heap_new S2.w _ rfl
  have hset : (S2.w.alloc (deltaO zeroDel)).setRow S2.w.heap.size A = S3.w := by rw [World.setRow_alloc_new, hS3]
  have HSET := Lib.hid hset
  have hcs3 : CmdsIn S3.w ca cs ccap := by rw [← hS3]; exact hcs.below ((Below.refl _ _).alloc (Nat.le_refl _) _)
  have HCS := Lib.hid hcs3
  have HAPT := Lib.hid (show AptCmds S1.w.heap.size ca cs from hapt)
  have HCO := Lib.hid hco
  have HDB := Lib.hid hDBk
  have hDBl : RB < DBk := by rw [hDBk]; exact hS2l
  obtain ⟨W3, hW3⟩ : ∃ W3, W3 = S3.w := ⟨_, rfl⟩
  obtain ⟨T3, hT3⟩ : ∃ T : HeldX W3 g [(g, rsO q.2 D.length da dcap), (RB, frdO g), (w.heap.size, deltaO zeroDel), (w.heap.size + 1, fltO 0 0), (DBk, deltaO A)], S3.w = T.w := by subst hW3; exact ⟨⟨S3.w, But.refl _ _ _, S3.blocks⟩, rfl⟩
  have HT3 := Lib.hid hT3
  have HCW := Lib.hid (show CmdsIn W3 ca cs ccap by rw [hW3]; exact hcs3)
  have HBW := Lib.hid (show Below w.heap.size w W3 by rw [hW3]; exact HX.out.trans ((S3.but.mono HX.out.size).below (by omega)))
  have hgW : g < W3.heap.size := by rw [hW3]; exact (Array.getElem?_eq_some_iff.1 (S3.blocks (g, rsO q.2 D.length da dcap) (by simp))).1
  have HS1X := Lib.hid (show g < S1.w.heap.size from (Array.getElem?_eq_some_iff.1 (S1.blocks (g, rsO ⟨0, 0, 0⟩ D.length da dcap) (by simp))).1)
  have hDBl2 : w.heap.size + 1 < DBk := by omega
  have cP := Lib.hid (fun (o : Obj) (S : HeldX W3 g [(g, o), (RB, frdO g), (w.heap.size, deltaO zeroDel), (w.heap.size + 1, fltO 0 0), (DBk, deltaO A)]) => (show S.w.cell? ⟨X.heap.size, 0, none⟩ = some (.pointer (some ⟨g, 0, none⟩)) ∧ S.w.drew.cell? ⟨X.heap.size, 0, none⟩ = some (.pointer (some ⟨g, 0, none⟩)) from by
    rw [← HRB.out]
    exact ⟨by rw [cell_of (S.blocks (RB, frdO g) (by simp))]; rfl, by rw [cell_of (S.drawC.blocks (RB, frdO g) (by simp))]; rfl⟩))
  have c3 := (cP.out _ T3).1
  clear hset hS3 hcs hcs3 hapt hco hbut ho hDBk hA hDA hW3 hT3
  go_wp2_with (refine wpList_store_rowTo rfl 27 (.tmp 5) (.tmp 11) rfl rfl S2.w.heap.size A rfl rfl 27 zeroDel hnew hinf hsz hone ?_; rw [HSET.out, ← HDB.out, HT3.out])
  refine (HeldX.call (s := T3) (rest_any g q.2.n D.length dcap da q.2.c q.2.p T3.w (T3.blocks (g, _) (by simp)) hqn (by omega))).mono ?_
  rintro e _ ⟨rfl, S4, rfl⟩
  clear c3 hnew
  have c4 := (cP.out _ S4).1
  obtain ⟨R, hR⟩ : ∃ R, R = endR D := ⟨_, rfl⟩
  have hE : R = finR D q.2 := by rw [hR]; unfold endR; rw [HQ.out]
  have HR := Lib.hid hR
  have hzf : ∀ W, (zeroValue 30).run Try.prog W = .ok (.agg (fltA 0 0)) W := fun W => by kernel_rfl
  clear hR
  by_cases hlt : q.2.n < D.length
  · have hd : decide (0 < (D.length : Int) - (q.2.n : Int)) = true := by simp; omega
    have HE := Lib.hid (show R = q.2.fail 12 q.2.n by rw [hE]; unfold finR; rw [if_pos hlt])
    clear hE
    go_wp2_with fail
    clear hlt
    have c4d := (cP.out _ S4).2
    have hAt := HeldX.call (s := S4.drawC) (gives_same (at_any g q.2.n D.length dcap da q.2.c q.2.p S4.drawC.w (S4.drawC.blocks (g, _) (by simp))))
    have hF := Lib.hid (fun (S : HeldX W3 g [(g, rsO q.2 D.length da dcap), (RB, frdO g), (w.heap.size, deltaO zeroDel), (w.heap.size + 1, fltO 0 0), (DBk, deltaO A)]) => HeldX.puts (wfail_all g dcap da q.2 S.w D.length 12 q.2.n (S.blocks (g, _) (by simp))) (.inl rfl) (all4 (Q := fun p : Nat × Obj => p.1 ≠ g) (by simp only; omega) (by simp only; omega) (by simp only; omega) (by simp only; omega)))
    go_region_with (first
      | (go_at_call 14; refine hAt.mono ?_; rintro e _ ⟨rfl, S5, rfl⟩; have c5 := (cP.out _ S5).1)
      | (go_at_call 13; refine (hF.out S5).mono ?_; rintro e _ ⟨rfl, S6, rfl⟩; have c6 := (cP.out _ S6).1))
    all_goals (
      have hS6 : ∃ S : HeldX W3 g [(g, rsO R D.length da dcap), (RB, frdO g), (w.heap.size, deltaO zeroDel), (w.heap.size + 1, fltO 0 0), (DBk, deltaO A)], S6.w = S.w := by rw [HE.out]; exact ⟨S6, rfl⟩
      obtain ⟨S7, hS7⟩ := hS6
      rw [hS7]
      clear hS7 c4 c4d c5 c6 hAt hF hd S6 S5
      have c7 := (cP.out _ S7).1
      go_wp2_with fail
      refine (HeldX.call (s := S7) (fault_any g R.n D.length dcap da R.c R.p S7.w (S7.blocks (g, _) (by simp)))).mono ?_
      rintro e _ ⟨rfl, S8, rfl⟩
      clear c7
      obtain ⟨FB, S9, hFB, hS9⟩ : ∃ (FB : Nat) (S : HeldX W3 g [(FB, fltO R.c R.p), (g, rsO R D.length da dcap), (RB, frdO g), (w.heap.size, deltaO zeroDel), (w.heap.size + 1, fltO 0 0), (DBk, deltaO A)]), FB = S8.w.heap.size ∧ S8.w.alloc (fltO R.c R.p) = S.w := ⟨_, S8.push _, rfl, rfl⟩
      have HS9 := Lib.hid hS9
      have HFB := Lib.hid hFB
      have g0 : S9.w.heap[w.heap.size]? = some (deltaO zeroDel) := S9.blocks (w.heap.size, deltaO zeroDel) (by simp)
      have g1 : S9.w.heap[w.heap.size + 1]? = some (.cells (fltA 0 0) 30 (0, 0)) := S9.blocks (w.heap.size + 1, fltO 0 0) (by simp)
      have gD : S9.w.heap[DBk]? = some (deltaO A) := S9.blocks (DBk, deltaO A) (by simp)
      have gF : S9.w.heap[FB]? = some (fltO R.c R.p) := S9.blocks (FB, fltO R.c R.p) (by simp)
      clear hS9 hFB
      by_cases hc : R.c = 0
      · have e1 : (R.c != 0) = false := by rw [hc]; rfl
        have g1' : (S9.w.setRow w.heap.size A).heap[w.heap.size + 1]? = some (.cells (fltA 0 0) 30 (0, 0)) := (setRow_other _ _ _ _ (by omega)).trans g1
        have g0' : (S9.w.setRow w.heap.size A).heap[w.heap.size]? = some (deltaO A) := setRow_heap _ _ _ _ _ _ g0
        have hfin : Hid (POST (.returned (.tuple #[.agg A, .agg (fltA 0 0)])) ((S9.w.setRow w.heap.size A).setRow (w.heap.size + 1) (fltA 0 0))) := Lib.hid (by
          rw [HP.out]
          refine ⟨hh.o, hh.n, pick32 zeros32 hh.x, pick32 zeros32 hh.y, cs, ca, ccap, 0, 0, by rw [HA.out], ?_, ?_, HAPT.out.mono (by have := HS1X.out; omega), HYES.out (by rw [← HR.out]; exact hc) cs HCO.out⟩
          · exact below_setRow (below_setRow (HBW.out.trans ((S9.but.mono HBW.out.size).below (by omega))) (Nat.le_refl _) _) (by omega) _
          · refine HCW.out.above HAPT.out (fun k hk hlt => ?_)
            have := HS1X.out
            rw [setRow_other _ _ _ _ (by omega), setRow_other _ _ _ _ (by omega)]
            exact S9.but.block k hlt (by omega))
        have HG0 := Lib.hid g0
        have HG1 := Lib.hid g1'
        have HGD := Lib.hid gD
        clear hc g0 g1 gD g1' gF
        go_wp2_with (first
          | (rw [HS9.out]; refine wpList_load_row rfl 27 (.tmp 5) rfl DBk rfl 27 _ (0, 0) _ HGD.out Try.underlying27 rfl hinf ?_)
          | (refine wpList_store_rowTo rfl 27 (.tmp 2) (.tmp 30) rfl rfl w.heap.size A rfl rfl 27 zeroDel HG0.out hinf hsz hone ?_)
          | (refine wpList_store_rowTo rfl 30 (.tmp 3) (.tmp 31) rfl rfl (w.heap.size + 1) (fltA 0 0) rfl rfl 30 (fltA 0 0) HG1.out (fltA_size _ _) rfl (fltA_one _ _) ?_))
        refine bodyPost_ret (v := .tuple #[.agg A, .agg (fltA 0 0)]) ?_ rfl hfin.out
        exact results_cell_row2 Try.results5 _ _ w.heap.size (w.heap.size + 1) 27 30 _ _ (0, 0) (0, 0) _ _ rfl rfl ((setRow_other _ _ _ _ (by omega)).trans g0') (setRow_heap _ _ _ _ _ _ HG1.out) Try.underlying27 rfl hinf Try.underlying30 rfl (fltA_size _ _)
      · have e1 : (R.c != 0) = true := by simpa using hc
        have HNO := Lib.hid (show DecRes D 0 0 zeros32 zeros32 [] R.c R.p by rw [HR.out]; exact dec_no (by rw [← HR.out]; exact hc))
        clear hc
        go_wp2_with fail
        rw [HS9.out, ← HFB.out]
        have q0 : S9.w.cell? ⟨FB, 0, none⟩ = some (.int .i64 R.c) := by rw [cell_of gF]; rfl
        have q1 : S9.w.cell? ⟨FB, 1, none⟩ = some (.int .i64 R.p) := by rw [cell_of gF]; rfl
        have u0 : S9.w.cell? ⟨w.heap.size + 1, 0, none⟩ = some (.int .i64 0) := by rw [cell_of g1]; rfl
        have u1 : S9.w.cell? ⟨w.heap.size + 1, 1, none⟩ = some (.int .i64 0) := by rw [cell_of g1]; rfl
        have uf0 : S9.w.frozen? ⟨w.heap.size + 1, 0, none⟩ = false := free_of g1 0
        have uf1 : S9.w.frozen? ⟨w.heap.size + 1, 1, none⟩ = false := free_of g1 1
        have hns1 := noop_store (w := S9.w.drew) (g := w.heap.size) g0
        have hoth : ∀ k, k ≠ w.heap.size + 1 → ((S9.w.setCell ⟨w.heap.size + 1, 0, none⟩ (.int .i64 R.c)).setCell ⟨w.heap.size + 1, 1, none⟩ (.int .i64 R.p)).drew.heap[k]? = S9.w.heap[k]? := fun k hk => (Below.heap_setCell _ _ _ _ (by simpa using hk)).trans (Below.heap_setCell _ _ _ _ (by simpa using hk))
        have hres : ((S9.w.setCell ⟨w.heap.size + 1, 0, none⟩ (.int .i64 R.c)).setCell ⟨w.heap.size + 1, 1, none⟩ (.int .i64 R.p)).drew.heap[w.heap.size + 1]? = some (.cells (fltA R.c R.p) 30 (0, 0)) := heap_setCell_same _ _ 1 _ _ _ (heap_setCell_same _ _ 0 _ _ _ g1)
        have hns2 := noop_store (w := ((S9.w.setCell ⟨w.heap.size + 1, 0, none⟩ (.int .i64 R.c)).setCell ⟨w.heap.size + 1, 1, none⟩ (.int .i64 R.p)).drew) (g := w.heap.size) ((hoth _ (by omega)).trans g0)
        have hinf0 := infoDelta zeroDel_of
        have hA67 : A.size = 67 := by rw [← hsz, zeroDel_of.size]
        have hPN : Hid (POST (.returned (.tuple #[.agg zeroDel, .agg (fltA R.c R.p)])) ((S9.w.setCell ⟨w.heap.size + 1, 0, none⟩ (.int .i64 R.c)).setCell ⟨w.heap.size + 1, 1, none⟩ (.int .i64 R.p)).drew) := Lib.hid (by
          rw [HP.out]
          have hbW : Below w.heap.size w S9.w := HBW.out.trans ((S9.but.mono HBW.out.size).below (by omega))
          exact ⟨0, 0, zeros32, zeros32, [], none, 0, R.c, R.p, rfl, ((hbW.setCell (p := ⟨w.heap.size + 1, 0, none⟩) (by simp only; omega) _).setCell (p := ⟨w.heap.size + 1, 1, none⟩) (by simp only; omega) _).drew, cmds_none _, ⟨fun ad h => by (cases h), fun c hc => by simp at hc⟩, HNO.out⟩)
        have HK := Lib.hid (And.intro ((hoth _ (by omega)).trans g0) (And.intro hres hinf0))
        clear gF gD hoth hres hinf0 g0 g1
        go_region
        all_goals (
          clear q0 q1 u0 u1 uf0 uf1 hns1 hns2 hA67
          go_wp2
          refine bodyPost_ret (v := .tuple #[.agg zeroDel, .agg (fltA R.c R.p)]) ?_ rfl hPN.out
          exact results_cell_row2 Try.results5 _ _ w.heap.size (w.heap.size + 1) 27 30 _ _ (0, 0) (0, 0) _ _ rfl rfl HK.out.1 HK.out.2.1 Try.underlying27 rfl HK.out.2.2 Try.underlying30 rfl (fltA_size _ _)))
  · have hd : decide (0 < (D.length : Int) - (q.2.n : Int)) = false := by simp; omega
    have HE := Lib.hid (show R = q.2 by rw [hE]; unfold finR; rw [if_neg hlt])
    have hS6 : ∃ S : HeldX W3 g [(g, rsO R D.length da dcap), (RB, frdO g), (w.heap.size, deltaO zeroDel), (w.heap.size + 1, fltO 0 0), (DBk, deltaO A)], S4.w = S.w := by rw [HE.out]; exact ⟨S4, rfl⟩
    obtain ⟨S7, hS7⟩ := hS6
    have HS7 := Lib.hid hS7
    clear hE c4 hS7
    rw [HS7.out]
    have c7 := (cP.out _ S7).1
    go_wp2_with fail
    refine (HeldX.call (s := S7) (fault_any g R.n D.length dcap da R.c R.p S7.w (S7.blocks (g, _) (by simp)))).mono ?_
    rintro e _ ⟨rfl, S8, rfl⟩
    clear c7
    obtain ⟨FB, S9, hFB, hS9⟩ : ∃ (FB : Nat) (S : HeldX W3 g [(FB, fltO R.c R.p), (g, rsO R D.length da dcap), (RB, frdO g), (w.heap.size, deltaO zeroDel), (w.heap.size + 1, fltO 0 0), (DBk, deltaO A)]), FB = S8.w.heap.size ∧ S8.w.alloc (fltO R.c R.p) = S.w := ⟨_, S8.push _, rfl, rfl⟩
    have HS9 := Lib.hid hS9
    have HFB := Lib.hid hFB
    have g0 : S9.w.heap[w.heap.size]? = some (deltaO zeroDel) := S9.blocks (w.heap.size, deltaO zeroDel) (by simp)
    have g1 : S9.w.heap[w.heap.size + 1]? = some (.cells (fltA 0 0) 30 (0, 0)) := S9.blocks (w.heap.size + 1, fltO 0 0) (by simp)
    have gD : S9.w.heap[DBk]? = some (deltaO A) := S9.blocks (DBk, deltaO A) (by simp)
    have gF : S9.w.heap[FB]? = some (fltO R.c R.p) := S9.blocks (FB, fltO R.c R.p) (by simp)
    clear hS9 hFB
    by_cases hc : R.c = 0
    · have e1 : (R.c != 0) = false := by rw [hc]; rfl
      have g1' : (S9.w.setRow w.heap.size A).heap[w.heap.size + 1]? = some (.cells (fltA 0 0) 30 (0, 0)) := (setRow_other _ _ _ _ (by omega)).trans g1
      have g0' : (S9.w.setRow w.heap.size A).heap[w.heap.size]? = some (deltaO A) := setRow_heap _ _ _ _ _ _ g0
      have hfin : Hid (POST (.returned (.tuple #[.agg A, .agg (fltA 0 0)])) ((S9.w.setRow w.heap.size A).setRow (w.heap.size + 1) (fltA 0 0))) := Lib.hid (by
        rw [HP.out]
        refine ⟨hh.o, hh.n, pick32 zeros32 hh.x, pick32 zeros32 hh.y, cs, ca, ccap, 0, 0, by rw [HA.out], ?_, ?_, HAPT.out.mono (by have := HS1X.out; omega), HYES.out (by rw [← HR.out]; exact hc) cs HCO.out⟩
        · exact below_setRow (below_setRow (HBW.out.trans ((S9.but.mono HBW.out.size).below (by omega))) (Nat.le_refl _) _) (by omega) _
        · refine HCW.out.above HAPT.out (fun k hk hlt => ?_)
          have := HS1X.out
          rw [setRow_other _ _ _ _ (by omega), setRow_other _ _ _ _ (by omega)]
          exact S9.but.block k hlt (by omega))
      have HG0 := Lib.hid g0
      have HG1 := Lib.hid g1'
      have HGD := Lib.hid gD
      clear hc g0 g1 gD g1' gF
      go_wp2_with (first
        | (rw [HS9.out]; refine wpList_load_row rfl 27 (.tmp 5) rfl DBk rfl 27 _ (0, 0) _ HGD.out Try.underlying27 rfl hinf ?_)
        | (refine wpList_store_rowTo rfl 27 (.tmp 2) (.tmp 30) rfl rfl w.heap.size A rfl rfl 27 zeroDel HG0.out hinf hsz hone ?_)
        | (refine wpList_store_rowTo rfl 30 (.tmp 3) (.tmp 31) rfl rfl (w.heap.size + 1) (fltA 0 0) rfl rfl 30 (fltA 0 0) HG1.out (fltA_size _ _) rfl (fltA_one _ _) ?_))
      refine bodyPost_ret (v := .tuple #[.agg A, .agg (fltA 0 0)]) ?_ rfl hfin.out
      exact results_cell_row2 Try.results5 _ _ w.heap.size (w.heap.size + 1) 27 30 _ _ (0, 0) (0, 0) _ _ rfl rfl ((setRow_other _ _ _ _ (by omega)).trans g0') (setRow_heap _ _ _ _ _ _ HG1.out) Try.underlying27 rfl hinf Try.underlying30 rfl (fltA_size _ _)
    · have e1 : (R.c != 0) = true := by simpa using hc
      have HNO := Lib.hid (show DecRes D 0 0 zeros32 zeros32 [] R.c R.p by rw [HR.out]; exact dec_no (by rw [← HR.out]; exact hc))
      clear hc
      go_wp2_with fail
      rw [HS9.out, ← HFB.out]
      have q0 : S9.w.cell? ⟨FB, 0, none⟩ = some (.int .i64 R.c) := by rw [cell_of gF]; rfl
      have q1 : S9.w.cell? ⟨FB, 1, none⟩ = some (.int .i64 R.p) := by rw [cell_of gF]; rfl
      have u0 : S9.w.cell? ⟨w.heap.size + 1, 0, none⟩ = some (.int .i64 0) := by rw [cell_of g1]; rfl
      have u1 : S9.w.cell? ⟨w.heap.size + 1, 1, none⟩ = some (.int .i64 0) := by rw [cell_of g1]; rfl
      have uf0 : S9.w.frozen? ⟨w.heap.size + 1, 0, none⟩ = false := free_of g1 0
      have uf1 : S9.w.frozen? ⟨w.heap.size + 1, 1, none⟩ = false := free_of g1 1
      have hns1 := noop_store (w := S9.w.drew) (g := w.heap.size) g0
      have hoth : ∀ k, k ≠ w.heap.size + 1 → ((S9.w.setCell ⟨w.heap.size + 1, 0, none⟩ (.int .i64 R.c)).setCell ⟨w.heap.size + 1, 1, none⟩ (.int .i64 R.p)).drew.heap[k]? = S9.w.heap[k]? := fun k hk => (Below.heap_setCell _ _ _ _ (by simpa using hk)).trans (Below.heap_setCell _ _ _ _ (by simpa using hk))
      have hres : ((S9.w.setCell ⟨w.heap.size + 1, 0, none⟩ (.int .i64 R.c)).setCell ⟨w.heap.size + 1, 1, none⟩ (.int .i64 R.p)).drew.heap[w.heap.size + 1]? = some (.cells (fltA R.c R.p) 30 (0, 0)) := heap_setCell_same _ _ 1 _ _ _ (heap_setCell_same _ _ 0 _ _ _ g1)
      have hns2 := noop_store (w := ((S9.w.setCell ⟨w.heap.size + 1, 0, none⟩ (.int .i64 R.c)).setCell ⟨w.heap.size + 1, 1, none⟩ (.int .i64 R.p)).drew) (g := w.heap.size) ((hoth _ (by omega)).trans g0)
      have hinf0 := infoDelta zeroDel_of
      have hA67 : A.size = 67 := by rw [← hsz, zeroDel_of.size]
      have hPN : Hid (POST (.returned (.tuple #[.agg zeroDel, .agg (fltA R.c R.p)])) ((S9.w.setCell ⟨w.heap.size + 1, 0, none⟩ (.int .i64 R.c)).setCell ⟨w.heap.size + 1, 1, none⟩ (.int .i64 R.p)).drew) := Lib.hid (by
        rw [HP.out]
        have hbW : Below w.heap.size w S9.w := HBW.out.trans ((S9.but.mono HBW.out.size).below (by omega))
        exact ⟨0, 0, zeros32, zeros32, [], none, 0, R.c, R.p, rfl, ((hbW.setCell (p := ⟨w.heap.size + 1, 0, none⟩) (by simp only; omega) _).setCell (p := ⟨w.heap.size + 1, 1, none⟩) (by simp only; omega) _).drew, cmds_none _, ⟨fun ad h => by (cases h), fun c hc => by simp at hc⟩, HNO.out⟩)
      have HK := Lib.hid (And.intro ((hoth _ (by omega)).trans g0) (And.intro hres hinf0))
      clear gF gD hoth hres hinf0 g0 g1
      go_region
      all_goals (
        clear q0 q1 u0 u1 uf0 uf1 hns1 hns2 hA67
        go_wp2
        refine bodyPost_ret (v := .tuple #[.agg zeroDel, .agg (fltA R.c R.p)]) ?_ rfl hPN.out
        exact results_cell_row2 Try.results5 _ _ w.heap.size (w.heap.size + 1) 27 30 _ _ (0, 0) (0, 0) _ _ rfl rfl HK.out.1 HK.out.2.1 Try.underlying27 rfl HK.out.2.2 Try.underlying30 rfl (fltA_size _ _))
end Go.Proofs.Ytefonhnidkfbgaa
