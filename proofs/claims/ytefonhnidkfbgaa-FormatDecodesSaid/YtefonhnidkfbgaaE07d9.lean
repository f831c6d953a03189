import Derived.Test.YtefonhnidkfbgaaE07d7
import Derived.Test.YtefonhnidkfbgaaE07d6
import Derived.Test.YtefonhnidkfbgaaE07d2
import Derived.Deep.RegionWith
import Derived.Laws.BitsLemmas
import Derived.Laws.Bits64
import Derived.Great.BuildSlice
import Derived.Deep.WholeRow
import Derived.Test.YtefonhnidkfbgaaE07d1
/- Append of package wire; the same of the reference. -/
namespace Go.Proofs.Ytefonhnidkfbgaa
open Go.RowKit
set_option linter.unusedVariables false
set_option linter.unusedSimpArgs false

/-- Whether a value has a size. -/
def fitB (v n : Int) : Bool := decide (1 ≤ n ∧ n ≤ 8) && (v / 2 ^ (8 * n).toNat == 0)
theorem fitB_size {v n : Int} (h : fitB v n = true) : 1 ≤ n ∧ n ≤ 8 := by
  unfold fitB at h
  simp only [Bool.and_eq_true, decide_eq_true_eq] at h
  exact h.1
theorem fits_any (v n : Int) (w : World) : Calls Try.prog 54 #[.agg #[.int .u64 v, .int .i64 n]] w (Gives (.bool (fitB v n)) w) := by
  have hi := isSize_any n
  by_cases hs : 1 ≤ n ∧ n ≤ 8
  · have he : fitB v n = (v / 2 ^ (8 * n).toNat == 0) := by unfold fitB; rw [decide_eq_true hs]; rfl
    rw [decide_eq_true hs] at hi
    rw [he]
    clear he
    have h1 : 1 ≤ n := hs.1
    have h2 : n ≤ 8 := hs.2
    clear hs
    go_enter Try.func54, Try.ntmps54
    go_wp2_with fail
    refine (hi _).mono ?_
    rintro e _ ⟨rfl, rfl⟩
    clear hi
    go_wp2
    go_ret
    exact ⟨rfl, (Below.refl _ w).alloc (Nat.le_refl _) _⟩
  · have he : fitB v n = false := by unfold fitB; rw [decide_eq_false hs]; rfl
    rw [decide_eq_false hs] at hi
    rw [he]
    clear he hs
    go_enter Try.func54, Try.ntmps54
    go_wp2_with fail
    refine (hi _).mono ?_
    rintro e _ ⟨rfl, rfl⟩
    clear hi
    go_wp2
    go_ret
    exact ⟨rfl, (Below.refl _ w).alloc (Nat.le_refl _) _⟩
/-- A digit of a number; the first k digits of a number of n bytes. -/
def dig (v : Int) (j : Nat) : Int := v / 2 ^ (8 * j) % 256
def digs (v : Int) (n k : Nat) : List Int := (List.range k).map fun j => dig v (n - 1 - j)
theorem digs_length (v : Int) (n k : Nat) : (digs v n k).length = k := by simp [digs]
theorem digs_succ (v : Int) (n k : Nat) : digs v n (k + 1) = digs v n k ++ [v / 2 ^ (8 * (n - 1 - k)) % 256] := by simp [digs, List.range_succ, dig]
/-- A number of n bytes. -/
abbrev enc1 (v : Int) (n : Nat) : List Int := digs v n n

/-- Fields that lie somewhere: value and size of each. -/
structure FieldsIn (w : World) (a : Option Addr) (fs : List (Int × Int)) (cap : Nat) : Prop where
  len : fs.length ≤ cap
  capb : cap ≤ 9223372036854775807
  cells : 0 < fs.length → ∃ b o, a = some ⟨b, o, none⟩ ∧ ∀ (i : Nat) (f : Int × Int), fs[i]? = some f → w.cell? ⟨b, o + i * 2, none⟩ = some (.int .u64 f.1) ∧ w.cell? ⟨b, o + i * 2 + 1, none⟩ = some (.int .i64 f.2)
  ok : ∀ f ∈ fs, (0 ≤ f.1 ∧ f.1 < 18446744073709551616) ∧ (-9223372036854775808 ≤ f.2 ∧ f.2 ≤ 9223372036854775807)
theorem FieldsIn.below {w w' : World} {a : Option Addr} {fs : List (Int × Int)} {cap : Nat} (h : FieldsIn w a fs cap) (hb : Below w.heap.size w w') : FieldsIn w' a fs cap :=
  ⟨h.len, h.capb, fun hp => by
    obtain ⟨b, o, rfl, hc⟩ := h.cells hp
    exact ⟨b, o, rfl, fun i f hi => ⟨(hb.cell (p := ⟨b, o + i * 2, none⟩) (World.block_lt_of_cell? _ _ (hc i f hi).1)).trans (hc i f hi).1, (hb.cell (p := ⟨b, o + i * 2 + 1, none⟩) (World.block_lt_of_cell? _ _ (hc i f hi).2)).trans (hc i f hi).2⟩⟩, h.ok⟩
theorem FieldsIn.at {w : World} {a : Option Addr} {fs : List (Int × Int)} {cap : Nat} (h : FieldsIn w a fs cap) {i : Nat} {f : Int × Int} (hi : fs[i]? = some f) : ∃ b o, a = some ⟨b, o, none⟩ ∧ w.cell? ⟨b, o + i * 2, none⟩ = some (.int .u64 f.1) ∧ w.cell? ⟨b, o + i * 2 + 1, none⟩ = some (.int .i64 f.2) := by
  obtain ⟨b, o, ha, hc⟩ := h.cells (by have := (List.getElem?_eq_some_iff.1 hi).1; omega)
  exact ⟨b, o, ha, hc i f hi⟩

/-- What is written of fields. -/
abbrev fitF (f : Int × Int) : Bool := fitB f.1 f.2
def encs (fs : List (Int × Int)) : List Int := fs.flatMap fun f => enc1 f.1 f.2.toNat
theorem encs_snoc {fs : List (Int × Int)} {k : Nat} {f : Int × Int} (h : fs[k]? = some f) : encs (fs.take (k + 1)) = encs (fs.take k) ++ enc1 f.1 f.2.toNat := by
  obtain ⟨hk, rfl⟩ := List.getElem?_eq_some_iff.1 h
  unfold encs
  rw [List.take_succ_eq_append_getElem hk, List.flatMap_append]
  simp only [List.flatMap_cons, List.flatMap_nil, List.append_nil]
theorem encs_length {fs : List (Int × Int)} (h : fs.all fitF = true) : (encs fs).length ≤ 8 * fs.length := by
  induction fs with
  | nil => simp [encs]
  | cons f fs ih =>
    rw [List.all_cons, Bool.and_eq_true] at h
    have h1 := ih h.2
    have h2 := fitB_size h.1
    have h3 : (encs (f :: fs)).length = (enc1 f.1 f.2.toNat).length + (encs fs).length := by simp [encs]
    rw [h3, digs_length, List.length_cons]
    omega
theorem all_take {fs : List (Int × Int)} {k : Nat} {f : Int × Int} (h : fs[k]? = some f) (ha : (fs.take k).all fitF = true) (hf : fitF f = true) : (fs.take (k + 1)).all fitF = true := by
  obtain ⟨hk, rfl⟩ := List.getElem?_eq_some_iff.1 h
  rw [List.take_succ_eq_append_getElem hk, List.all_append, ha]
  simpa using hf
theorem all_not {fs : List (Int × Int)} {k : Nat} {f : Int × Int} (h : fs[k]? = some f) (hf : fitF f = false) : fs.all fitF = false := by
  cases ha : fs.all fitF with
  | false => rfl
  | true => rw [List.all_eq_true.1 ha f (List.mem_of_getElem? h)] at hf; cases hf

def AppendPost (l : List Int) (fs : List (Int × Int)) (w : World) (e : Ending) (w' : World) : Prop :=
  if fs.all fitF = true then ∃ v, e = .returned (.tuple #[v, .bool true]) ∧ ∃ s : OwnW w 5 v ((l ++ encs fs).map (Value.int .u8)), w' = s.w
  else e = .returned (.tuple #[.slice none 0 0, .bool false]) ∧ Below w.heap.size w w'

theorem make_capG (k : Nat) (hk : k ≤ 100000000000) (w : World) : (Instr.makeSlice 22 (.int .i64 0) (.int .i64 (k : Int))).run Try.prog w = .ok (.slice (some ⟨w.heap.size, 0, none⟩) 0 k) (w.alloc (.cells (byteA (List.replicate k 0)) 5)) := by
  have hi : ∃ i, Try.prog.info? 5 = some i ∧ i.zero = some (.int .u8 0) ∧ i.size = 1 ∧ i.bytes = 1 := by
    have h : (Try.prog.info? 5).map (fun i => (i.zero, i.size, i.bytes)) = some (some (.int .u8 0), 1, 1) := by kernel_rfl
    obtain ⟨i, hi, he⟩ := Option.map_eq_some_iff.1 h
    simp only [Prod.mk.injEq] at he
    exact ⟨i, hi, he.1, he.2.1, he.2.2⟩
  obtain ⟨i, hi, hz, hs, hb⟩ := hi
  rw [run_make w 22 5 i _ Try.underlying22 hi hz .i64 .i64 0 k (by omega) (by omega) (by rw [hb]; omega) (by omega)]
  rw [hs, Int.toNat_natCast, made_zero]
  rfl
/-- A new row with room. -/
theorem own_made {w0 : World} (s : HeldW w0 []) (k : Nat) (hk : k ≤ 100000000000) : ∃ S : OwnW w0 5 (.slice (some ⟨s.w.heap.size, 0, none⟩) 0 k) [], s.w.alloc (.cells (byteA (List.replicate k 0)) 5) = S.w :=
  ⟨⟨_, s.below.alloc s.below.size _, rfl, .inr ⟨s.w.heap.size, k, byteA (List.replicate k 0), rfl, s.below.size, World.alloc_heap_new s.w _, Nat.zero_le _, by unfold maxLen; omega, by rw [byteA_size]; simp, by simp⟩⟩, rfl⟩

/-- The box of a field. -/
abbrev fRow (b : Nat) (f : Int × Int) : Row := ⟨64, 2, .slice (some ⟨b, 0, none⟩) 1 1, 1, [.int .u64 f.1, .int .i64 f.2]⟩

set_option maxRecDepth 100000 in
set_option maxHeartbeats 4000000 in
theorem append_any (l : List Int) (a : Option Addr) (cap : Nat) (fs : List (Int × Int)) (fa : Option Addr) (fcap : Nat) (w : World) (hb : BytesIn w a l cap) (hm : l.length ≤ 1000000000) (hf : FieldsIn w fa fs fcap) (hn : fs.length ≤ 1000000000) :
    Calls Try.prog 41 #[.slice a l.length cap, .slice fa fs.length fcap] w (AppendPost l fs w) := by
  have HB := Lib.hid hb
  have HF := Lib.hid hf
  have HBAD := Lib.hid (show ∀ (s : HeldW w []), fs.all fitF = false → AppendPost l fs w (.returned (.tuple #[.slice none 0 0, .bool false])) s.w from fun s h => by unfold AppendPost; rw [if_neg (by rw [h]; simp)]; exact ⟨rfl, s.below⟩)
  have HOK := Lib.hid (show ∀ v (s : OwnW w 5 v ((l ++ encs fs).map (Value.int .u8))), fs.all fitF = true → AppendPost l fs w (.returned (.tuple #[v, .bool true])) s.w from fun v s h => by unfold AppendPost; rw [if_pos h]; exact ⟨v, rfl, s, rfl⟩)
  obtain ⟨Q, hQ⟩ : ∃ Q, Q = AppendPost l fs w := ⟨_, rfl⟩
  rw [← hQ] at HBAD HOK ⊢
  obtain ⟨M, hM⟩ : ∃ M, M = l.length := ⟨_, rfl⟩
  obtain ⟨N, hN⟩ : ∃ N, N = fs.length := ⟨_, rfl⟩
  rw [← hM] at hm ⊢
  rw [← hN] at hn ⊢
  have HM := Lib.hid hM
  have HN := Lib.hid hN
  clear hb hf hQ hM hN
  go_enter Try.func41, Try.ntmps41
  go_wp2
  go_loopw [6, 8, 17] (fun t _ i wr => ∃ k : Nat, k ≤ N ∧ i = .int .i64 k ∧ Hid ((fs.take k).all fitF = true) ∧ ∃ T : Nat, t = .int .i64 T ∧ Hid (T = M + (encs (fs.take k)).length) ∧ ∃ s : HeldW w [], wr = s.w) (fun _ _ i _ => N - (intOf i).toNat)
  case atStart => exact ⟨0, by omega, rfl, Lib.hid (by simp), M, rfl, Lib.hid (by simp [encs]), HeldW.start w, rfl⟩
  case round =>
    obtain ⟨k, hk, rfl, hall, T, rfl, hT, s, rfl⟩ := hrel
    have hT2 : T ≤ M + 8 * N := by
      have h1 := encs_length hall.out
      have h2 : (fs.take k).length ≤ k := by rw [List.length_take]; omega
      have := hT.out
      omega
    by_cases hlt : k < N
    · obtain ⟨f, hfk⟩ : ∃ f, fs[k]? = some f := ⟨_, List.getElem?_eq_getElem (by rw [← HN.out]; exact hlt)⟩
      obtain ⟨b, o, rfl, x0, x1⟩ := (HF.out.below s.below).at hfk
      have hfit := fits_any f.1 f.2 (s.push (.cells #[.int .u64 f.1, .int .i64 f.2] 64 (0, 0))).w
      have HFK := Lib.hid hfk
      have hb2 := Lib.hid (fun h : fitB f.1 f.2 = true => fitB_size h)
      clear hfk
      cases hff : fitB f.1 f.2 with
      | false =>
        rw [hff] at hfit
        have HFF := Lib.hid hff
        clear hff hb2
        go_wp2_with fail
        refine (HeldW.call (s := s.push (.cells #[.int .u64 f.1, .int .i64 f.2] 64 (0, 0))) hfit).mono ?_
        rintro e _ ⟨rfl, s2, rfl⟩
        clear hfit x0 x1
        go_wp2
        exact HBAD.out (s2.sub (bs' := []) (by simp)) (all_not HFK.out HFF.out)
      | true =>
        obtain ⟨q1, q2⟩ := hb2.out hff
        rw [hff] at hfit
        have HFF := Lib.hid hff
        clear hff hb2
        go_wp2_with fail
        refine (HeldW.call (s := s.push (.cells #[.int .u64 f.1, .int .i64 f.2] 64 (0, 0))) hfit).mono ?_
        rintro e _ ⟨rfl, s2, rfl⟩
        clear hfit x0 x1
        have hblk := s2.blocks (_, _) List.mem_cons_self
        have y1 : s2.w.cell? ⟨s.w.heap.size, 1, none⟩ = some (.int .i64 f.2) := by rw [cell_of hblk]; rfl
        clear hblk
        go_wp2
        go_roundw
        case rel => exact ⟨k + 1, by omega, by go_num, Lib.hid (all_take HFK.out hall.out HFF.out), T + f.2.toNat, by go_num, Lib.hid (by rw [encs_snoc HFK.out, List.length_append, digs_length, hT.out]; omega), s2.sub (by simp), rfl⟩
        case measure => simp [intOf]; omega
    · obtain rfl : N = k := by omega
      have hmk := make_capG T (by omega)
      obtain ⟨so, hso⟩ := own_made s T (by omega)
      have HSO := Lib.hid hso
      clear hso
      obtain ⟨E, hE⟩ := elem8
      obtain ⟨EW, hEW⟩ := elemW8
      have HEW := Lib.hid hEW
      clear hE hEW
      have HSRC := Lib.hid (((HB.out.below s.below).below (by rw [HSO.out.symm]; exact (Below.refl _ _).alloc (Nat.le_refl _) _) : BytesIn so.w a l cap)).news
      have HML := Lib.hid (show M = (l.map (Value.int .u8)).length by rw [List.length_map]; exact HM.out)
      have HNI := Lib.hid (HB.out.nil2 (n := M) HM.out)
      have HALL := Lib.hid (show fs.all fitF = true by have := hall.out; rw [HN.out, List.take_length] at this; exact this)
      have HMB := Lib.hid (show M ≤ 1000000000 from hm)
      clear hall hT hT2
      go_wp2_with (rw [HSO.out]; refine wpList_append_src E so (l.map (Value.int .u8)) (.tmp 30) (.tmp 31) rfl rfl rfl a M cap HML.out rfl HNI.out HSRC.out (one_bytes _) (by rw [List.length_nil, List.length_map]; have := HMB.out; have := HM.out; omega) ?_; intro v1 s1)
      clear hmk HSRC HSO so
      obtain ⟨s1', hs1⟩ : ∃ s' : OwnW w 5 v1 (l.map (Value.int .u8)), s1.w = s'.w := ⟨s1.as (by simp), rfl⟩
      rw [hs1]
      clear hs1 s1
      obtain ⟨S0, hS0⟩ : ∃ S : Piles w [⟨5, 1, v1, M, l.map (Value.int .u8)⟩], s1'.w = S.w :=
        ⟨⟨s1'.w, s1'.below, all1 (Q := fun r : Row => r.At w.heap.size s1'.w) (by have := s1'.own; rw [List.length_map, ← HM.out] at this; exact this), List.pairwise_singleton _ _⟩, rfl⟩
      rw [hS0]
      clear hS0 s1'
      go_loopw [9, 11, 12, 35] (fun u _ _ i wr => ∃ k : Nat, k ≤ N ∧ i = .int .i64 k ∧ ∃ m : Nat, Hid (m = M + (encs (fs.take k)).length) ∧ ∃ S : Piles w [⟨5, 1, u, m, (l ++ encs (fs.take k)).map (Value.int .u8)⟩], wr = S.w) (fun _ _ _ i _ => N - (intOf i).toNat)
      case atStart => exact ⟨0, by omega, rfl, M, Lib.hid (by simp [encs]), by
        obtain ⟨S, hS⟩ := S0.conv (rs2 := [⟨5, 1, v1, M, (l ++ encs (fs.take 0)).map (Value.int .u8)⟩]) _ (by simp [encs]) (List.Perm.refl _)
        exact ⟨S, hS⟩⟩
      case round =>
        clear S0
        obtain ⟨k, hk, rfl, m, hm, S, rfl⟩ := hrel
        by_cases hlt : k < N
        · obtain ⟨f, hfk⟩ : ∃ f, fs[k]? = some f := ⟨_, List.getElem?_eq_getElem (by rw [← HN.out]; exact hlt)⟩
          have hfit := List.all_eq_true.1 HALL.out f (List.mem_of_getElem? hfk)
          have hsz := fitB_size hfit
          obtain ⟨v, z⟩ := f
          obtain ⟨n, rfl⟩ : ∃ n : Nat, z = n := ⟨z.toNat, by simp only at hsz; omega⟩
          simp only at hsz
          have hvb := (HF.out.ok _ (List.mem_of_getElem? hfk)).1
          obtain ⟨b, o, rfl, x0, x1⟩ := (HF.out.below S.below).at hfk
          have HFK := Lib.hid hfk
          have hmb : m ≤ M + 8 * N := by
            have h1 := encs_length (fs := fs.take k) (by rw [List.all_eq_true]; exact fun f hf => List.all_eq_true.1 HALL.out f (List.mem_of_mem_take hf))
            have h2 : (fs.take k).length ≤ k := by rw [List.length_take]; omega
            have := hm.out
            omega
          simp only at hvb x0 x1
          clear hfk hfit
          go_wp2
          obtain ⟨B, S1, hB, hS1⟩ : ∃ (B : Nat) (S1 : Piles w [fRow B (v, n), ⟨5, 1, u9, m, (l ++ encs (fs.take k)).map (Value.int .u8)⟩]), S.w.heap.size = B ∧ S.w.alloc (.cells #[.int .u64 v, .int .i64 n] 64) = S1.w := by
            obtain ⟨S1, h⟩ := S.box 64 #[.int .u64 v, .int .i64 n] 2 rfl
            exact ⟨_, S1, rfl, h⟩
          rw [hS1, hB]
          clear hS1 hB x0 x1 S
          go_loopw [9, 12] (fun u i wr => ∃ j : Nat, j ≤ n ∧ i = .int .i64 ((n : Int) - 1 - j) ∧ ∃ S : Piles w [fRow B (v, n), ⟨5, 1, u, m + j, (l ++ encs (fs.take k) ++ digs v n j).map (Value.int .u8)⟩], wr = S.w) (fun _ i _ => (intOf i + 1).toNat)
          case atStart => exact ⟨0, by omega, by simp, by
            obtain ⟨S, hS⟩ := S1.conv (rs2 := [fRow B (v, n), ⟨5, 1, u9, m + 0, (l ++ encs (fs.take k) ++ digs v n 0).map (Value.int .u8)⟩]) _ (by simp [digs]) (List.Perm.refl _)
            exact ⟨S, hS⟩⟩
          case round =>
            clear S1
            obtain ⟨j, hj, rfl, S, rfl⟩ := hrel
            obtain ⟨hBl, hcells⟩ := S.boxCells (b := B) (t := 64) (size := 2) (xs := [.int .u64 v, .int .i64 n]) List.mem_cons_self
            have y0 := hcells 0 _ rfl
            by_cases hjn : j < n
            · have HEB := Lib.hid (show (m + j + 1) * EW.bytes ≤ 140737488355328 by rw [HEW.out]; omega)
              have HM63 := Lib.hid (show m + j + 1 ≤ maxLen by unfold maxLen; omega)
              obtain ⟨C, A, hvw, -⟩ : ∃ (A : Option Addr) (C : Nat), u9 = .slice A (m + j) C ∧ True := by
                obtain ⟨A, C, h1, -⟩ := S.view (r := ⟨5, 1, u9, m + j, (l ++ encs (fs.take k) ++ digs v n j).map (Value.int .u8)⟩) (by simp)
                exact ⟨A, C, h1, trivial⟩
              subst hvw
              clear hcells
              go_wp2_with (refine wpList_append_one EW S (.int .u8 (v / 2 ^ (8 * (n - 1 - j)) % 256)) rfl (.tmp 46) (.tmp 53) rfl rfl rfl rfl HM63.out HEB.out ?_; intro v' S2)
              go_roundw
              case rel => exact ⟨j + 1, by omega, by go_num, by
                obtain ⟨S3, hS3⟩ := S2.conv (rs2 := [fRow B (v, n), ⟨5, 1, v', m + (j + 1), (l ++ encs (fs.take k) ++ digs v n (j + 1)).map (Value.int .u8)⟩]) [⟨5, 1, v', m + (j + 1), (l ++ encs (fs.take k) ++ digs v n (j + 1)).map (Value.int .u8)⟩, fRow B (v, n)] (by rw [digs_succ]; simp [Nat.add_assoc]) (List.Perm.swap _ _ _)
                exact ⟨S3, hS3⟩⟩
              case measure => simp [intOf]; omega
            · obtain rfl : n = j := by omega
              clear hcells y0
              go_wp2
              go_roundw
              case rel =>
                obtain ⟨S2, hS2⟩ := S.sub (List.sublist_cons_self _ _)
                obtain ⟨S3, hS3⟩ := S2.conv (rs2 := [⟨5, 1, u9, m + n, (l ++ encs (fs.take (k + 1))).map (Value.int .u8)⟩]) _ (by rw [encs_snoc HFK.out]; simp [enc1]) (List.Perm.refl _)
                exact ⟨k + 1, by omega, by go_num, m + n, Lib.hid (by rw [encs_snoc HFK.out, List.length_append, digs_length, hm.out]; simp only [Int.toNat_natCast]; omega), S3, hS2.trans hS3⟩
              case measure => simp [intOf]; omega
        · obtain rfl : N = k := by omega
          have HTK := Lib.hid (show fs.take N = fs by rw [HN.out, List.take_length])
          go_wp2
          obtain ⟨S2, hS2⟩ := S.conv (rs2 := [⟨5, 1, u9, m, (l ++ encs fs).map (Value.int .u8)⟩]) _ (by rw [HTK.out]) (List.Perm.refl _)
          have hr := S2.rows _ List.mem_cons_self
          have hlen := hr.1
          simp only [Nat.mul_one] at hlen
          rw [hS2]
          exact HOK.out _ ⟨S2.w, S2.below, by rw [hlen]; exact hr⟩ HALL.out
end Go.Proofs.Ytefonhnidkfbgaa

/- slices.Equal of bytes. -/
namespace Go.Proofs.Ytefonhnidkfbgaa
open Go.RowKit
set_option linter.unusedVariables false

/-- Whether two lists of bytes are one, as far as the first k go. -/
theorem getD_take_eq {l m : List Int} {k : Nat} (h : l.take k = m.take k) (hk : k < l.length) (hk2 : k < m.length) (he : l[k]?.getD 0 = m[k]?.getD 0) : l.take (k + 1) = m.take (k + 1) := by
  rw [List.take_succ_eq_append_getElem hk, List.take_succ_eq_append_getElem hk2, h]
  rw [List.getElem?_eq_getElem hk, List.getElem?_eq_getElem hk2] at he
  simp only [Option.getD_some] at he
  rw [he]
end Go.Proofs.Ytefonhnidkfbgaa

/- The example of chapter 6. -/
namespace Go.Proofs.Ytefonhnidkfbgaa
open Go.RowKit
set_option linter.unusedVariables false
set_option linter.unusedSimpArgs false

theorem ex_app : [9] ++ encs [((258 : Int), (3 : Int))] = [9, 0, 1, 2] := by decide +kernel
theorem ex_fit : ([((258 : Int), (3 : Int))]).all fitF = true := by decide +kernel
theorem ex_9 : beval ((([9, 0, 1, 2] : List Int).drop 0).take 1) = 9 := by decide +kernel
theorem ex_258 : beval ((([9, 0, 1, 2] : List Int).drop 1).take 3) = 258 := by decide +kernel

/-- A slice of its own: as bytes, in its world. -/
theorem OwnW.bytesL {w0 : World} {v : Value} {l l' : List Int} (s : OwnW w0 5 v (l.map (Value.int .u8))) (h : l = l') : ∃ (a : Option Addr) (cap : Nat), v = .slice a l'.length cap ∧ BytesIn s.w a l' cap := by subst h; exact s.bytes

/-- The class of a reader's block. -/
theorem HeldX.below0 {w0 w1 : World} {g : Nat} {bs : List (Nat × Obj)} (s : HeldX w1 g bs) (hb : Below w0.heap.size w0 w1) (hg : w0.heap.size ≤ g) : Below w0.heap.size w0 s.w := hb.trans ((s.but.mono hb.size).below hg)
theorem BytesIn.X {w : World} {g : Nat} {a : Option Addr} {l : List Int} {cap : Nat} (h : BytesIn w a l cap) (hne : ∀ b o, a = some ⟨b, o, none⟩ → b ≠ g) {bs : List (Nat × Obj)} (s : HeldX w g bs) : BytesIn s.w a l cap :=
  ⟨h.len, h.capb, fun hp => by
    obtain ⟨b, o, rfl, hc⟩ := h.cells hp
    exact ⟨b, o, rfl, fun i hi => src_cellX (hne b o rfl) (hc i hi) s⟩, h.nil⟩

theorem append_yes {l : List Int} {fs : List (Int × Int)} {w w' : World} {e : Ending} (h : fs.all fitF = true) (hp : AppendPost l fs w e w') : ∃ v, e = .returned (.tuple #[v, .bool true]) ∧ ∃ s : OwnW w 5 v ((l ++ encs fs).map (Value.int .u8)), w' = s.w := by
  unfold AppendPost at hp
  rwa [if_pos h] at hp
theorem append_not {l : List Int} {fs : List (Int × Int)} {w w' : World} {e : Ending} (h : fs.all fitF = false) (hp : AppendPost l fs w e w') : e = .returned (.tuple #[.slice none 0 0, .bool false]) ∧ Below w.heap.size w w' := by
  unfold AppendPost at hp
  rwa [if_neg (by rw [h]; simp)] at hp

end Go.Proofs.Ytefonhnidkfbgaa

/- The fields of a law, and what the reference writes of them. -/
namespace Go.Proofs.Ytefonhnidkfbgaa
open Go.RowKit
set_option linter.unusedVariables false
set_option linter.unusedSimpArgs false

/-- The cells of fields, one behind the other. -/
def fcells (fs : List (Int × Int)) : List Value := fs.flatMap fun f => [.int .u64 f.1, .int .i64 f.2]
theorem fcells_snoc {fs : List (Int × Int)} {k : Nat} {f : Int × Int} (h : fs[k]? = some f) : fcells (fs.take (k + 1)) = fcells (fs.take k) ++ [.int .u64 f.1, .int .i64 f.2] := by
  obtain ⟨hk, rfl⟩ := List.getElem?_eq_some_iff.1 h
  unfold fcells
  rw [List.take_succ_eq_append_getElem hk, List.flatMap_append]
  simp only [List.flatMap_cons, List.flatMap_nil, List.append_nil]
theorem fcells_get : ∀ (fs : List (Int × Int)) (i : Nat) (f : Int × Int), fs[i]? = some f → (fcells fs)[i * 2]? = some (.int .u64 f.1) ∧ (fcells fs)[i * 2 + 1]? = some (.int .i64 f.2) := by
  intro fs
  induction fs with
  | nil => intro i f h; simp at h
  | cons g fs ih =>
    intro i f h
    have e : fcells (g :: fs) = .int .u64 g.1 :: .int .i64 g.2 :: fcells fs := rfl
    rw [e]
    cases i with
    | zero => simp at h; subst h; exact ⟨rfl, rfl⟩
    | succ i =>
      have := ih i f (by simpa using h)
      rw [show (i + 1) * 2 = i * 2 + 1 + 1 by omega]
      exact this
theorem elem2 : ∃ E : ElemS Try.prog 67 64 2, E.bytes = 16 := by
  have h : (Try.prog.info? 64).map (fun i => (i.zero, i.size, i.bytes)) = some (some (.agg #[.int .u64 0, .int .i64 0]), 2, 16) := by kernel_rfl
  obtain ⟨i, hi, he⟩ := Option.map_eq_some_iff.1 h
  simp only [Prod.mk.injEq] at he
  exact ⟨⟨i, .agg #[.int .u64 0, .int .i64 0], 16, Try.underlying67, hi, he.1, he.2.1, he.2.2, rfl, by omega⟩, rfl⟩

/-- A row of fields can be read. -/
theorem row_fields {w : World} {base : Nat} {v : Value} {n : Nat} {fs : List (Int × Int)} (h : w.ownsRow base 64 2 v n (fcells fs)) (hn : n = fs.length) (hok : ∀ f ∈ fs, (0 ≤ f.1 ∧ f.1 < 18446744073709551616) ∧ (-9223372036854775808 ≤ f.2 ∧ f.2 ≤ 9223372036854775807)) :
    ∃ (a : Option Addr) (cap : Nat), v = .slice a fs.length cap ∧ FieldsIn w a fs cap := by
  subst hn
  rcases h.2 with ⟨rfl, h0⟩ | ⟨g, cap, cur, rfl, hb, hg, hc1, hc2, hsz, htk⟩
  · obtain rfl := List.eq_nil_of_length_eq_zero h0
    exact ⟨none, 0, rfl, ⟨by simp, by omega, fun h => by simp at h, hok⟩⟩
  · refine ⟨_, cap, rfl, ⟨hc1, by unfold maxLen at hc2; omega, fun _ => ⟨g, 0, rfl, fun i f hi => ?_⟩, hok⟩⟩
    obtain ⟨h1, h2⟩ := fcells_get fs i f hi
    have get : ∀ j u, (fcells fs)[j]? = some u → w.cell? ⟨g, j, none⟩ = some u := fun j u hu => by
      rw [← htk, List.getElem?_take] at hu
      split at hu
      · rw [cell_of hg]; simpa using hu
      · cases hu
    rw [Nat.zero_add]
    exact ⟨get _ _ h1, get _ _ h2⟩

/-- A new slice of its own is one more row. -/
theorem Piles.made {w0 : World} {rs : List Row} (S : Piles w0 rs) {e : TypeId} {v : Value} {xs : List Value} (s : OwnW S.w e v xs) : ∃ S' : Piles w0 (⟨e, 1, v, xs.length, xs⟩ :: rs), s.w = S'.w :=
  S.fresh s.below _ ⟨s.own.1, s.own.2.imp id fun ⟨g, cap, cur, h1, h2, h3⟩ => ⟨g, cap, cur, h1, Nat.le_trans S.below.size h2, h3⟩⟩ (fun g hg => (s.own.lt g hg).1)

/-- One element of two cells, in a new literal, is appended to the second row. -/
theorem wpList_append_two {P : Program} {t e : TypeId} (E : ElemS P t e 2) {w0 : World} {r1 : Row} {rs : List Row} {v : Value} {n : Nat} {xs : List Value} {ops : Array Oper} {rest : List Oper} {o : Oper} {a : Act} {Q : Exit → Act → World → Prop} (S : Piles w0 (r1 :: ⟨e, 2, v, n, xs⟩ :: rs)) (x y : Value) (hx1 : x.oneCell' = true) (hy1 : y.oneCell' = true) (sO xO : Operand)
    (hgd : o.guard = none) (ho : o.op = .call { callee := .builtin .append, args := #[sO, xO], argTypes := #[t, t] }) (hs : a.eval sO = v) (p : Nat) (hp : p = S.w.heap.size) (hx : a.eval xO = .slice (some ⟨p, 0, none⟩) 1 1) (h63 : n + 1 ≤ maxLen) (hbytes : (n + 1) * E.bytes ≤ 140737488355328)
    (H : ∀ v' (S' : Piles w0 (⟨e, 2, v', n + 1, xs ++ [x, y]⟩ :: r1 :: rs)), wpList P ops Q rest (a.put o.dst v') S'.w) : wpList P ops Q (o :: rest) a (S.w.alloc (.cells #[x, y] e)) := by
  subst hp
  obtain ⟨S3, hS3⟩ := S.later (w' := S.w.alloc (.cells #[x, y] e)) ((Below.refl _ _).alloc (Nat.le_refl _) _)
  obtain ⟨S4, hS4⟩ := S3.perm (rs' := ⟨e, 2, v, n, xs⟩ :: r1 :: rs) (List.Perm.swap _ _ _)
  have hc : ∀ j u, ([x, y] : List Value)[j]? = some u → S4.w.cell? ⟨S.w.heap.size, j, none⟩ = some u := fun j u hu => by
    rw [← hS4, ← hS3, cell_of (World.alloc_heap_new S.w _)]; simpa using hu
  rw [hS3, hS4]
  refine wpList_append_pilesS E S4 sO xO hgd ho hs (some ⟨S.w.heap.size, 0, none⟩) 1 1 [x, y] rfl hx (fun h => by cases h) (fun ad had j u hu => ?_) (fun u hu => by simp at hu; rcases hu with rfl | rfl; exact hx1; exact hy1) h63 hbytes H
  obtain rfl := Option.some.inj had
  rw [Addr.add_mid, Nat.zero_add]
  exact hc j u hu

/-- What fields returns. -/
def FieldsPost (fs : List (Int × Int)) (w : World) (e : Ending) (w' : World) : Prop := ∃ vo vb, e = .returned (.tuple #[vo, vb, .bool (fs.all fitF)]) ∧ ∃ ws : List Int, (fs.all fitF = true → ws = encs fs) ∧
  ∃ S : Piles w [⟨64, 2, vo, fs.length, fcells fs⟩, ⟨5, 1, vb, ws.length, ws.map (Value.int .u8)⟩], w' = S.w

theorem all_takeB {fs : List (Int × Int)} {k : Nat} {f : Int × Int} (h : fs[k]? = some f) : (fs.take (k + 1)).all fitF = ((fs.take k).all fitF && fitF f) := by
  obtain ⟨hk, rfl⟩ := List.getElem?_eq_some_iff.1 h
  rw [List.take_succ_eq_append_getElem hk, List.all_append]
  simp

/-- What its caller takes of it. -/
structure FieldsOut (fs : List (Int × Int)) (Z : Nat) (all : Bool) (ws : List Int) (fA : Option Addr) (fC : Nat) (wA : Option Addr) (wC : Nat) (w w' : World) : Prop where
  z : Z = ws.length
  all : all = fs.all fitF
  want : fs.all fitF = true → ws = encs fs
  f : FieldsIn w' fA fs fC
  b : BytesIn w' wA ws wC
  below : Below w.heap.size w w'
end Go.Proofs.Ytefonhnidkfbgaa

/- WireInverse returns true for all fields, and changes nothing that was there. -/
namespace Go.Proofs.Ytefonhnidkfbgaa
open Go.RowKit
set_option linter.unusedVariables false
set_option linter.unusedSimpArgs false

/-- One more digit, in numbers. -/
theorem stepU_eq {x d : Int} (hx : 0 ≤ x) (hx2 : x * 256 < 18446744073709551616) (hd : 0 ≤ d ∧ d < 256) : stepU x d = x * 256 + d := by
  unfold stepU
  rw [IntKind.wrap_u64, IntKind.wrap_u64, Int.emod_eq_of_lt (by omega) hx2, Int.emod_eq_of_lt hd.1 (by omega)]
  exact bits_join .u64 64 (by decide) (fun n h0 h1 => by rw [IntKind.wrap_u64]; omega) 8 _ _ (by omega) (by omega) (by omega) hd.1 (by omega) (by omega)
theorem div_step (v : Int) (j : Nat) : v / 2 ^ (8 * (j + 1)) = v / 2 ^ (8 * j) / 256 := by
  rw [Int.ediv_ediv_of_nonneg (Int.pow_nonneg (by omega)), show 8 * (j + 1) = 8 * j + 8 by omega, Int.pow_add]
  rfl
/-- What the digits make. -/
theorem beval_digs (v : Int) (n : Nat) (hv : 0 ≤ v ∧ v < 18446744073709551616) (hf : v / 2 ^ (8 * n) = 0) : ∀ k, k ≤ n → beval (digs v n k) = v / 2 ^ (8 * (n - k)) := by
  intro k
  induction k with
  | zero => intro _; rw [Nat.sub_zero, hf]; rfl
  | succ k ih =>
    intro hk
    have h1 := ih (by omega)
    obtain ⟨j, hj⟩ : ∃ j, n - k = j + 1 := ⟨n - k - 1, by omega⟩
    rw [hj] at h1
    rw [show n - (k + 1) = j by omega, digs_succ, show n - 1 - k = j by omega]
    have h2 := div_step v j
    have hp : (0 : Int) < 2 ^ (8 * j) := Int.pow_pos (by omega)
    have h3 : 0 ≤ v / 2 ^ (8 * j) := Int.ediv_nonneg hv.1 (Int.le_of_lt hp)
    have h4 : v / 2 ^ (8 * j) ≤ v := Int.ediv_le_self _ hv.1
    have h5 : beval (digs v n k ++ [v / 2 ^ (8 * j) % 256]) = stepU (beval (digs v n k)) (v / 2 ^ (8 * j) % 256) := by simp only [beval, List.foldl_append, List.foldl_cons, List.foldl_nil]
    rw [h5, h1, h2, stepU_eq (by omega) (by omega) (by omega)]
    omega
theorem beval_enc1 {v z : Int} (hv : 0 ≤ v ∧ v < 18446744073709551616) (h : fitB v z = true) : beval (enc1 v z.toNat) = v := by
  have hz := fitB_size h
  have hf : v / 2 ^ (8 * z.toNat) = 0 := by
    unfold fitB at h
    simp only [Bool.and_eq_true, beq_iff_eq] at h
    have := h.2
    rwa [show (8 * z).toNat = 8 * z.toNat by omega] at this
  rw [beval_digs v z.toNat hv hf z.toNat (Nat.le_refl _), Nat.sub_self]
  simp

/-- The bytes of the k-th field. -/
theorem encs_part {fs : List (Int × Int)} {k : Nat} {f : Int × Int} (h : fs[k]? = some f) : ((encs fs).drop (encs (fs.take k)).length).take f.2.toNat = enc1 f.1 f.2.toNat ∧ (encs (fs.take k)).length + f.2.toNat ≤ (encs fs).length := by
  obtain ⟨hk, rfl⟩ := List.getElem?_eq_some_iff.1 h
  have h1 : encs fs = encs (fs.take k) ++ (enc1 fs[k].1 fs[k].2.toNat ++ encs (fs.drop (k + 1))) := by
    have : fs = fs.take k ++ (fs[k] :: fs.drop (k + 1)) := by rw [List.getElem_cons_drop, List.take_append_drop]
    conv => lhs; rw [this]
    unfold encs
    rw [List.flatMap_append, List.flatMap_cons]
  have h2 : (enc1 fs[k].1 fs[k].2.toNat).length = fs[k].2.toNat := digs_length _ _ _
  constructor
  · conv => lhs; rw [h1, List.drop_left]
    rw [List.take_append_of_le_length (by omega), List.take_of_length_le (by omega)]
  · rw [h1, List.length_append, List.length_append, h2]
    omega

/-- A draw, in the class of a reader's block. -/
abbrev HeldX.drawC {w0 : World} {h : Nat} {bs : List (Nat × Obj)} (s : HeldX w0 h bs) : HeldX w0 h bs := ⟨s.w.drew, ⟨s.but.os, s.but.tape, s.but.output, s.but.size, s.but.block⟩, s.blocks⟩
theorem nil_in (w : World) : BytesIn w none [] 0 := ⟨by simp, by omega, fun h => absurd h (by simp), fun _ => rfl⟩

end Go.Proofs.Ytefonhnidkfbgaa

/- A wanted operation of a region in the text's order, and the whole-row load and the build as such. -/
namespace Go.Proofs.Ytefonhnidkfbgaa
open Go.RowKit
set_option linter.unusedVariables false

/-- A wanted operation of a region in the text's order, and the whole-array load and the build as such. -/
theorem wpList_wanted {P : Program} {ops : Array Oper} {rest : List Oper} {o : Oper} {a : Act} {w : World} {Q : Exit → Act → World → Prop} (hw : Region.wanted o (yielded ops a.tmps) = true)
    (h : ∀ K : Act → World → Prop, (∀ a w, wpList P ops Q rest a w → K a w) → o.wp P a w K Q) : wpList P ops Q (o :: rest) a w :=
  wpList_step fun K hK => by rw [if_pos hw]; exact h K hK
theorem wpList_load_rowG {P : Program} {ops : Array Oper} {rest : List Oper} {o : Oper} {a : Act} {w : World} {Q : Exit → Act → World → Prop} (hgd : Region.wanted o (yielded ops a.tmps) = true) (ty : TypeId) (x : Operand) (ho : o.op = .load ty x)
    (d0 : Option Tmp) (hdst : o.dst = d0) (g : Nat) (hx : a.eval x = .pointer (some ⟨g, 0, none⟩)) (t : TypeId) (cs : Array Value) (fr : Nat × Nat) (d : TypeDesc) (hg : w.heap[g]? = some (.cells cs t fr))
    (hu : P.underlying ty = some d) (hd : (match d with | .struct _ | .array _ _ => true | _ => false) = true) (hi : (P.info? ty).map (·.size) = some cs.size)
    (h : wpList P ops Q rest (a.put d0 (.agg cs)) w) : wpList P ops Q (o :: rest) a w := by
  subst hdst
  exact wpList_wanted hgd fun _ hK => wp_load_row ty x ho g hx t cs fr d hg hu hd hi (hK _ _ h)
theorem wpList_buildToG {P : Program} {ops : Array Oper} {rest : List Oper} {o : Oper} {a : Act} {w : World} {Q : Exit → Act → World → Prop} (hg : Region.wanted o (yielded ops a.tmps) = true) (t : TypeId) (parts : Array (Nat × Operand)) (ho : o.op = .build t parts)
    (d : Option Tmp) (hd : o.dst = d) (cells : Array Value) (hf : P.built t (parts.map fun (i, x) => (i, a.eval x)).toList = some cells)
    (h : wpList P ops Q rest (a.put d (.agg cells)) w) : wpList P ops Q (o :: rest) a w := by
  subst hd
  exact wpList_wanted hg fun _ hK => wp_build t parts ho (by rw [hf]; rfl) (by rw [hf]; exact hK _ _ h)

end Go.Proofs.Ytefonhnidkfbgaa
