/- Format of package sha: the digits of a digest. -/
import Derived.Laws.BytesString
import Derived.Test.YtnpcocjjmajifaaDoor02Own
import Derived.Test.YtnpcocjjmajifaaDoor02Sum
namespace Go.Proofs.YtnpcocjjmajifaaDoor
open Go.RowKit
set_option linter.unusedVariables false

/-- The digit of a number below 16. -/
def hexD (x : Int) : Int := ([48, 49, 50, 51, 52, 53, 54, 55, 56, 57, 97, 98, 99, 100, 101, 102] : List Int)[x.toNat]?.getD 0
/-- The digits of bytes. -/
def hexL (d : List Int) : List Int := d.flatMap fun b => [hexD (b / 16), hexD (b % 16)]
/-- A string out of its bytes. -/
def strOf (l : List Int) : ByteArray := l.foldl (fun r n => r.push (UInt8.ofNat n.toNat)) ByteArray.empty

theorem hexL_succ (d : List Int) {k : Nat} (h : k < d.length) : hexL (d.take (k + 1)) = hexL (d.take k) ++ [hexD (d[k]?.getD 0 / 16), hexD (d[k]?.getD 0 % 16)] := by
  rw [List.take_succ_eq_append_getElem h, List.getElem?_eq_getElem h]
  unfold hexL
  rw [List.flatMap_append]
  simp
theorem hexL_length (d : List Int) : (hexL d).length = 2 * d.length := by
  induction d with
  | nil => rfl
  | cons x d ih => unfold hexL at ih ⊢; rw [List.flatMap_cons, List.length_append, ih, List.length_cons]; simp; omega
theorem lt16 {x : Int} (h0 : 0 ≤ x) (h1 : x < 16) : x = 0 ∨ x = 1 ∨ x = 2 ∨ x = 3 ∨ x = 4 ∨ x = 5 ∨ x = 6 ∨ x = 7 ∨ x = 8 ∨ x = 9 ∨ x = 10 ∨ x = 11 ∨ x = 12 ∨ x = 13 ∨ x = 14 ∨ x = 15 := by omega
theorem index_hex {x : Int} (h0 : 0 ≤ x) (h1 : x < 16) (w : World) : (Instr.index 9 (.string ⟨#[48, 49, 50, 51, 52, 53, 54, 55, 56, 57, 97, 98, 99, 100, 101, 102]⟩) (.int .u8 x)).run Tryd.prog w = .ok (.int .u8 (hexD x)) w := by
  rcases lt16 h0 h1 with rfl | rfl | rfl | rfl | rfl | rfl | rfl | rfl | rfl | rfl | rfl | rfl | rfl | rfl | rfl | rfl <;> kernel_rfl

theorem index_dig (d : List Int) (hd : d.length = 32) {k : Nat} (hk : k < 32) (w : World) : (Instr.index 24 (.agg (byteA d)) (.int .i64 (k : Int))).run Tryd.prog w = .ok (.int .u8 (d[k]?.getD 0)) w := by
  have hu : Tryd.prog.underlying 24 = some (.array 32 5) := Tryd.underlying24
  have hsz : ∀ w, (sizeOf 5).run Tryd.prog w = .ok 1 w := fun w => by kernel_rfl
  have hag : ∀ w, (isAgg 5).run Tryd.prog w = .ok false w := fun w => by kernel_rfl
  have hg := byteA_get d (i := k) (by omega)
  simp [Instr.index, asIntOf, run_underlying hu, Sem.run_bind, hk, hsz, part, hag, hg, Result.andThen]

set_option maxRecDepth 100000 in
set_option maxHeartbeats 4000000 in
theorem format_any (d : List Int) (hd : d.length = 32) (hb : ∀ i, i < 32 → 0 ≤ d[i]?.getD 0 ∧ d[i]?.getD 0 < 256) (w : World) : Calls Tryd.prog 18 #[.agg (byteA d)] w (Gives (.string (strOf (hexL d))) w) := by
  have hmk : ∀ w, (Instr.makeSlice 22 (.int .i64 0) (.int .i64 64)).run Tryd.prog w = .ok (.slice (some ⟨w.heap.size, 0, none⟩) 0 64) (w.alloc (.cells (byteA (List.replicate 64 0)) 5)) := make_cap 0 64 (by omega) (by omega)
  have hg : ((w.alloc (.cells (byteA d) 24)).alloc (.cells (byteA (List.replicate 64 0)) 5)).heap[w.heap.size]? = some (.cells (byteA d) 24 (0, 0)) := heap_old (heap_new w _ rfl) _
  have hinf : (Tryd.prog.info? 24).map (·.size) = some (byteA d).size := by rw [byteA_size, hd]; kernel_rfl
  obtain ⟨Z, hZ⟩ : ∃ Z, Z = byteA (List.replicate 64 0) := ⟨_, rfl⟩
  have hZs : Z.size = 64 := by rw [hZ, byteA_size]; simp
  rw [← hZ] at hmk hg
  obtain ⟨s0, hs0⟩ : ∃ s0 : OwnW w 5 (.slice (some ⟨w.heap.size + 1, 0, none⟩) 0 64) [], (w.alloc (.cells (byteA d) 24)).alloc (.cells Z 5) = s0.w :=
    ⟨⟨_, ((Below.refl _ w).alloc (Nat.le_refl _) _).alloc (by simp) _, by
      have := World.ownsRow_made (base := w.heap.size) (e := 5) (size := 1) (w.alloc (.cells (byteA d) 24)) Z 64 (by simp) (by unfold maxLen; omega) (by rw [hZs])
      simpa using this⟩, rfl⟩
  obtain ⟨E⟩ := elem_of (P := Tryd.prog) (t := 22) (e := 5) (z := .int .u8 0) (n := 1) Tryd.underlying22 (by kernel_rfl) rfl (by omega)
  have HB := Lib.hid hb
  have HD := Lib.hid hd
  have HS := Lib.hid hs0
  clear hb hd hZ hZs hs0
  go_enter Tryd.func18, Tryd.ntmps18
  go_wp2_with (refine wpList_load_row rfl 24 (.tmp 1) rfl w.heap.size rfl 24 _ (0, 0) _ hg Tryd.underlying24 rfl hinf ?_)
  rw [HS.out]
  clear hmk hg hinf HS
  go_loopw [3, 5, 8] (fun t _ i wr => ∃ k : Nat, k ≤ 32 ∧ i = .int .i64 k ∧ ∃ s : OwnW w 5 t ((hexL (d.take k)).map (Value.int .u8)), wr = s.w) (fun _ _ i _ => 32 - (intOf i).toNat)
  case atStart => exact ⟨0, by omega, rfl, s0, rfl⟩
  case round =>
    clear s0
    obtain ⟨k, hk, rfl, s, rfl⟩ := hrel
    by_cases hlt : k < 32
    · have hix := index_dig d HD.out hlt
      have hsn := Lib.hid (hexL_succ d (k := k) (by rw [HD.out]; exact hlt))
      obtain ⟨b0, b1⟩ := HB.out k hlt
      generalize d[k]?.getD 0 = b at hix hsn b0 b1
      have hand : bits .and .u8 b 15 = b % 16 := u8_and15 b b0 b1
      have q0 : 0 ≤ b / 16 := by omega
      have q1 : b / 16 < 16 := by omega
      have r0 : 0 ≤ b % 16 := by omega
      have r1 : b % 16 < 16 := by omega
      have hq := index_hex q0 q1
      have hr := index_hex r0 r1
      have hl : ((hexL (d.take k)).map (Value.int .u8)).length + ([Value.int .u8 (hexD (b / 16)), .int .u8 (hexD (b % 16))] : List Value).length ≤ 1099511627776 := by
        rw [List.length_map, hexL_length, List.length_take]; simp; omega
      have HLN := Lib.hid hl
      clear hl
      go_wp2
      refine wp_region_O_tail1 7 s (.tmp 3) rfl rfl (by kernel_rfl) (by kernel_rfl) (fun _ _ _ h => h) (fun hne => ?_)
      simp only [List.take_succ_cons, List.take_zero, List.drop_succ_cons, List.drop_zero]
      clear s
      repeat (go_big_quiet_step (fail))
      refine wpQuiet_nil ?_
      rintro _ ⟨s, rfl⟩
      clear hne hix hand hq hr q0 q1 r0 r1
      go_wp2_with (refine wpList_append_O E s [.int .u8 (hexD (b / 16)), .int .u8 (hexD (b % 16))] _ rfl (.tmp 11) (.tmp 18) rfl rfl rfl 2 2 rfl rfl (by simp [Value.oneCell']) HLN.out ?_; intro v' s3)
      go_roundw
      case rel => exact ⟨k + 1, by omega, by go_num, s3.as (by rw [hsn.out, List.map_append]; rfl), rfl⟩
      case measure => simp [intOf]; omega
    · obtain rfl : k = 32 := by omega
      have hl : ((hexL (d.take 32)).map (Value.int .u8)).length = 64 := by rw [List.length_map, hexL_length, List.length_take, HD.out]; rfl
      obtain ⟨g, cap, rfl, hg, hcap, hm, hc⟩ := s.row 64 hl (by omega)
      have hcv : (convert 22 9 (.slice (some ⟨g, 0, none⟩) 64 cap)).run Tryd.prog s.w = .ok (.string (strOf (hexL d))) s.w := by
        rw [run_convert_bytes_string s.w 22 9 5 _ _ _ Tryd.underlying22 Tryd.underlying5 Tryd.underlying9]
        have htk : d.take 32 = d := List.take_of_length_le (Nat.le_of_eq HD.out)
        have hld := run_loadCells_list (P := Tryd.prog) s.w ⟨g, 0, none⟩ ((hexL (d.take 32)).map (Value.int .u8)) (fun j v hv => by rw [Addr.add_mid, Nat.zero_add]; exact hc j v hv)
        rw [hl] at hld
        rw [run_bytesToString s.w ⟨g, 0, none⟩ 64 cap (hexL (d.take 32)) hld]
        exact congrArg (fun x => Result.ok (Value.string (strOf (hexL x))) s.w) htk
      clear hc hl
      go_wp2
      go_ret
      exact ⟨rfl, s.below⟩

theorem shaL_bytes (m : List Int) : ∀ i, i < 32 → 0 ≤ (shaL m)[i]?.getD 0 ∧ (shaL m)[i]?.getD 0 < 256 := fun i hi => by
  unfold shaL digL
  rw [List.getElem?_map, List.getElem?_range hi]
  simp only [Option.map_some, Option.getD_some, digB]
  omega
end Go.Proofs.YtnpcocjjmajifaaDoor
