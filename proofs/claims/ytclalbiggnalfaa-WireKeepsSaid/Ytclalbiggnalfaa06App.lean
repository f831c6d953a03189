/- Append of package wire; the same of the reference. -/
import Derived.Test.Ytclalbiggnalfaa06Bytes
import Derived.Test.Ytclalbiggnalfaa00Piles
namespace Go.Proofs.Ytclalbiggnalfaa
open Go.RowKit
set_option linter.unusedVariables false
set_option linter.unusedSimpArgs false

/-- Whether a value has a size. -/
def fitB (v n : Int) : Bool := decide (1 ≤ n ∧ n ≤ 8) && (v / 2 ^ (8 * n).toNat == 0)
theorem fitB_size {v n : Int} (h : fitB v n = true) : 1 ≤ n ∧ n ≤ 8 := by
  unfold fitB at h
  simp only [Bool.and_eq_true, decide_eq_true_eq] at h
  exact h.1
theorem fits_any (v n : Int) (w : World) : Calls Try.prog 23 #[.agg #[.int .u64 v, .int .i64 n]] w (Gives (.bool (fitB v n)) w) := by
  have hi := isSize_any n
  by_cases hs : 1 ≤ n ∧ n ≤ 8
  · have he : fitB v n = (v / 2 ^ (8 * n).toNat == 0) := by unfold fitB; rw [decide_eq_true hs]; rfl
    rw [decide_eq_true hs] at hi
    rw [he]
    clear he
    have h1 : 1 ≤ n := hs.1
    have h2 : n ≤ 8 := hs.2
    clear hs
    go_enter Try.func23, Try.ntmps23
    go_wp2_with fail
    refine (hi _).mono ?_
    rintro e _ ⟨rfl, rfl⟩
    clear hi
    go_wp2
    go_ret
    exact ⟨rfl, (Below.refl _ w).alloc (Nat.le_refl _) _⟩
  · have he : fitB v n = false := by unfold fitB; rw [decide_eq_false hs]; rfl
    rw [decide_eq_false hs] at hi
    rw [he]
    clear he hs
    go_enter Try.func23, Try.ntmps23
    go_wp2_with fail
    refine (hi _).mono ?_
    rintro e _ ⟨rfl, rfl⟩
    clear hi
    go_wp2
    go_ret
    exact ⟨rfl, (Below.refl _ w).alloc (Nat.le_refl _) _⟩
theorem rfits_any (v n : Int) (w : World) (hv : 0 ≤ v ∧ v < 18446744073709551616) : Calls Try.prog 21 #[.int .u64 v, .int .i64 n] w (Gives (.bool (fitB v n)) w) := by
  by_cases h1 : 1 ≤ n
  · by_cases h2 : n ≤ 8
    · have he : fitB v n = (v / 2 ^ (8 * n).toNat == 0) := by unfold fitB; rw [decide_eq_true ⟨h1, h2⟩]; rfl
      by_cases h8 : n = 8
      · have he2 : (v / 2 ^ (8 * n).toNat == 0) = true := by
          subst h8
          simp only [beq_iff_eq]
          exact Int.ediv_eq_zero_of_lt hv.1 (by simpa using hv.2)
        rw [he, he2]
        have hb : (n == 8) = true := by simpa using h8
        clear he he2 hv
        go_enter Try.func21, Try.ntmps21
        go_wp2
        go_ret
        exact ⟨rfl, Below.refl _ _⟩
      · rw [he]
        have hb : (n == 8) = false := by simpa using h8
        clear he hv
        go_enter Try.func21, Try.ntmps21
        go_wp2
        go_ret
        exact ⟨rfl, Below.refl _ _⟩
    · have he : fitB v n = false := by unfold fitB; rw [decide_eq_false (fun h => h2 h.2)]; rfl
      rw [he]
      clear he hv
      go_enter Try.func21, Try.ntmps21
      go_wp2
      go_ret
      exact ⟨rfl, Below.refl _ _⟩
  · have he : fitB v n = false := by unfold fitB; rw [decide_eq_false (fun h => h1 h.1)]; rfl
    rw [he]
    clear he hv
    go_enter Try.func21, Try.ntmps21
    go_wp2
    go_ret
    exact ⟨rfl, Below.refl _ _⟩

/-- A digit of a number; the first k digits of a number of n bytes. -/
def dig (v : Int) (j : Nat) : Int := v / 2 ^ (8 * j) % 256
def digs (v : Int) (n k : Nat) : List Int := (List.range k).map fun j => dig v (n - 1 - j)
theorem digs_length (v : Int) (n k : Nat) : (digs v n k).length = k := by simp [digs]
theorem digs_succ (v : Int) (n k : Nat) : digs v n (k + 1) = digs v n k ++ [v / 2 ^ (8 * (n - 1 - k)) % 256] := by simp [digs, List.range_succ, dig]
/-- A number of n bytes. -/
abbrev enc1 (v : Int) (n : Nat) : List Int := digs v n n

set_option maxRecDepth 100000 in
theorem rappend_any (l : List Int) (a : Option Addr) (cap : Nat) (v : Int) (n : Nat) (w : World) (hb : BytesIn w a l cap) (hm : l.length ≤ 1000000000) (hn : n ≤ 8) (hv : 0 ≤ v ∧ v < 18446744073709551616) :
    Calls Try.prog 22 #[.slice a l.length cap, .int .u64 v, .int .i64 n] w (MakesR 5 ((l ++ enc1 v n).map (Value.int .u8)) w) := by
  obtain ⟨E⟩ := elem_of (P := Try.prog) (t := 22) (e := 5) (z := .int .u8 0) (n := 1) Try.underlying22 (by kernel_rfl) rfl (by omega)
  obtain ⟨so, hso⟩ := own_empty w
  have HSO := Lib.hid hso
  have HSRC := Lib.hid (hb.below so.below).news
  have HML := Lib.hid (show l.length = (l.map (Value.int .u8)).length from (List.length_map _).symm)
  have HLN := Lib.hid (show l.length ≤ 1000000000 from hm)
  have HN := Lib.hid (hb.nil2 (n := l.length) rfl)
  clear hso hb hm
  go_enter Try.func22, Try.ntmps22
  go_wp2_with (rw [HSO.out]; refine wpList_append_src E so (l.map (Value.int .u8)) (.tmp 9) (.tmp 10) rfl rfl rfl a l.length cap HML.out rfl HN.out HSRC.out (one_bytes _) (by rw [List.length_nil, List.length_map]; have := HLN.out; omega) ?_; intro v' s')
  go_loopw [7, 8] (fun u i wr => ∃ k : Nat, k ≤ n ∧ i = .int .i64 ((n : Int) - 1 - k) ∧ ∃ s : OwnW w 5 u ((l ++ digs v n k).map (Value.int .u8)), wr = s.w) (fun _ i _ => (intOf i + 1).toNat)
  case atStart => exact ⟨0, by omega, by simp, s'.as (by simp [digs]), rfl⟩
  case round =>
    clear s'
    obtain ⟨k, hk, rfl, s, rfl⟩ := hrel
    obtain ⟨m, hm⟩ : ∃ m, ((l ++ digs v n k).map (Value.int .u8)).length = m := ⟨_, rfl⟩
    have hm2 : m = l.length + k := by rw [← hm, List.length_map, List.length_append, digs_length]
    obtain ⟨A, C, rfl, h1, h2, -⟩ := s.view m hm
    have HM := Lib.hid hm
    have HM2 := Lib.hid hm2
    clear hm hm2
    by_cases hlt : k < n
    · have HL2 := Lib.hid (show ((l ++ digs v n k).map (Value.int .u8)).length + [Value.int .u8 (v / 2 ^ (8 * (n - 1 - k)) % 256)].length ≤ 1099511627776 by rw [HM.out, HM2.out]; have := HLN.out; simp; omega)
      go_wp2_with (refine wpList_append_O E s [.int .u8 (v / 2 ^ (8 * (n - 1 - k)) % 256)] _ rfl (.tmp 18) (.tmp 24) rfl rfl rfl 1 1 rfl rfl (by simp [Value.oneCell']) HL2.out ?_; intro v' s3)
      go_roundw
      case rel => exact ⟨k + 1, by omega, by go_num, s3.as (by rw [digs_succ]; simp), rfl⟩
      case measure => simp [intOf]; omega
    · obtain rfl : k = n := by omega
      go_wp2
      go_ret
      exact ⟨_, rfl, s, rfl⟩

/-- Fields that lie somewhere: value and size of each. -/
structure FieldsIn (w : World) (a : Option Addr) (fs : List (Int × Int)) (cap : Nat) : Prop where
  len : fs.length ≤ cap
  capb : cap ≤ 9223372036854775807
  cells : 0 < fs.length → ∃ b o, a = some ⟨b, o, none⟩ ∧ ∀ (i : Nat) (f : Int × Int), fs[i]? = some f → w.cell? ⟨b, o + i * 2, none⟩ = some (.int .u64 f.1) ∧ w.cell? ⟨b, o + i * 2 + 1, none⟩ = some (.int .i64 f.2)
  ok : ∀ f ∈ fs, (0 ≤ f.1 ∧ f.1 < 18446744073709551616) ∧ (-9223372036854775808 ≤ f.2 ∧ f.2 ≤ 9223372036854775807)
theorem FieldsIn.below {w w' : World} {a : Option Addr} {fs : List (Int × Int)} {cap : Nat} (h : FieldsIn w a fs cap) (hb : Below w.heap.size w w') : FieldsIn w' a fs cap :=
  ⟨h.len, h.capb, fun hp => by
    obtain ⟨b, o, rfl, hc⟩ := h.cells hp
    exact ⟨b, o, rfl, fun i f hi => ⟨(hb.cell (p := ⟨b, o + i * 2, none⟩) (World.block_lt_of_cell? _ _ (hc i f hi).1)).trans (hc i f hi).1, (hb.cell (p := ⟨b, o + i * 2 + 1, none⟩) (World.block_lt_of_cell? _ _ (hc i f hi).2)).trans (hc i f hi).2⟩⟩, h.ok⟩
theorem FieldsIn.at {w : World} {a : Option Addr} {fs : List (Int × Int)} {cap : Nat} (h : FieldsIn w a fs cap) {i : Nat} {f : Int × Int} (hi : fs[i]? = some f) : ∃ b o, a = some ⟨b, o, none⟩ ∧ w.cell? ⟨b, o + i * 2, none⟩ = some (.int .u64 f.1) ∧ w.cell? ⟨b, o + i * 2 + 1, none⟩ = some (.int .i64 f.2) := by
  obtain ⟨b, o, ha, hc⟩ := h.cells (by have := (List.getElem?_eq_some_iff.1 hi).1; omega)
  exact ⟨b, o, ha, hc i f hi⟩

/-- What is written of fields. -/
abbrev fitF (f : Int × Int) : Bool := fitB f.1 f.2
def encs (fs : List (Int × Int)) : List Int := fs.flatMap fun f => enc1 f.1 f.2.toNat
theorem encs_snoc {fs : List (Int × Int)} {k : Nat} {f : Int × Int} (h : fs[k]? = some f) : encs (fs.take (k + 1)) = encs (fs.take k) ++ enc1 f.1 f.2.toNat := by
  obtain ⟨hk, rfl⟩ := List.getElem?_eq_some_iff.1 h
  unfold encs
  rw [List.take_succ_eq_append_getElem hk, List.flatMap_append]
  simp only [List.flatMap_cons, List.flatMap_nil, List.append_nil]
theorem encs_length {fs : List (Int × Int)} (h : fs.all fitF = true) : (encs fs).length ≤ 8 * fs.length := by
  induction fs with
  | nil => simp [encs]
  | cons f fs ih =>
    rw [List.all_cons, Bool.and_eq_true] at h
    have h1 := ih h.2
    have h2 := fitB_size h.1
    have h3 : (encs (f :: fs)).length = (enc1 f.1 f.2.toNat).length + (encs fs).length := by simp [encs]
    rw [h3, digs_length, List.length_cons]
    omega
theorem all_take {fs : List (Int × Int)} {k : Nat} {f : Int × Int} (h : fs[k]? = some f) (ha : (fs.take k).all fitF = true) (hf : fitF f = true) : (fs.take (k + 1)).all fitF = true := by
  obtain ⟨hk, rfl⟩ := List.getElem?_eq_some_iff.1 h
  rw [List.take_succ_eq_append_getElem hk, List.all_append, ha]
  simpa using hf
theorem all_not {fs : List (Int × Int)} {k : Nat} {f : Int × Int} (h : fs[k]? = some f) (hf : fitF f = false) : fs.all fitF = false := by
  cases ha : fs.all fitF with
  | false => rfl
  | true => rw [List.all_eq_true.1 ha f (List.mem_of_getElem? h)] at hf; cases hf

def AppendPost (l : List Int) (fs : List (Int × Int)) (w : World) (e : Ending) (w' : World) : Prop :=
  if fs.all fitF = true then ∃ v, e = .returned (.tuple #[v, .bool true]) ∧ ∃ s : OwnW w 5 v ((l ++ encs fs).map (Value.int .u8)), w' = s.w
  else e = .returned (.tuple #[.slice none 0 0, .bool false]) ∧ Below w.heap.size w w'

theorem make_capG (k : Nat) (hk : k ≤ 100000000000) (w : World) : (Instr.makeSlice 22 (.int .i64 0) (.int .i64 (k : Int))).run Try.prog w = .ok (.slice (some ⟨w.heap.size, 0, none⟩) 0 k) (w.alloc (.cells (byteA (List.replicate k 0)) 5)) := by
  have hi : ∃ i, Try.prog.info? 5 = some i ∧ i.zero = some (.int .u8 0) ∧ i.size = 1 ∧ i.bytes = 1 := by
    have h : (Try.prog.info? 5).map (fun i => (i.zero, i.size, i.bytes)) = some (some (.int .u8 0), 1, 1) := by kernel_rfl
    obtain ⟨i, hi, he⟩ := Option.map_eq_some_iff.1 h
    simp only [Prod.mk.injEq] at he
    exact ⟨i, hi, he.1, he.2.1, he.2.2⟩
  obtain ⟨i, hi, hz, hs, hb⟩ := hi
  rw [run_make w 22 5 i _ Try.underlying22 hi hz .i64 .i64 0 k (by omega) (by omega) (by rw [hb]; omega) (by omega)]
  rw [hs, Int.toNat_natCast, made_zero]
  rfl
/-- A new row with room. -/
theorem own_made {w0 : World} (s : HeldW w0 []) (k : Nat) (hk : k ≤ 100000000000) : ∃ S : OwnW w0 5 (.slice (some ⟨s.w.heap.size, 0, none⟩) 0 k) [], s.w.alloc (.cells (byteA (List.replicate k 0)) 5) = S.w :=
  ⟨⟨_, s.below.alloc s.below.size _, rfl, .inr ⟨s.w.heap.size, k, byteA (List.replicate k 0), rfl, s.below.size, World.alloc_heap_new s.w _, Nat.zero_le _, by unfold maxLen; omega, by rw [byteA_size]; simp, by simp⟩⟩, rfl⟩

/-- The box of a field. -/
abbrev fRow (b : Nat) (f : Int × Int) : Row := ⟨36, 2, .slice (some ⟨b, 0, none⟩) 1 1, 1, [.int .u64 f.1, .int .i64 f.2]⟩

set_option maxRecDepth 100000 in
set_option maxHeartbeats 4000000 in
theorem append_any (l : List Int) (a : Option Addr) (cap : Nat) (fs : List (Int × Int)) (fa : Option Addr) (fcap : Nat) (w : World) (hb : BytesIn w a l cap) (hm : l.length ≤ 1000000000) (hf : FieldsIn w fa fs fcap) (hn : fs.length ≤ 1000000000) :
    Calls Try.prog 9 #[.slice a l.length cap, .slice fa fs.length fcap] w (AppendPost l fs w) := by
  have HB := Lib.hid hb
  have HF := Lib.hid hf
  have HBAD := Lib.hid (show ∀ (s : HeldW w []), fs.all fitF = false → AppendPost l fs w (.returned (.tuple #[.slice none 0 0, .bool false])) s.w from fun s h => by unfold AppendPost; rw [if_neg (by rw [h]; simp)]; exact ⟨rfl, s.below⟩)
  have HOK := Lib.hid (show ∀ v (s : OwnW w 5 v ((l ++ encs fs).map (Value.int .u8))), fs.all fitF = true → AppendPost l fs w (.returned (.tuple #[v, .bool true])) s.w from fun v s h => by unfold AppendPost; rw [if_pos h]; exact ⟨v, rfl, s, rfl⟩)
  obtain ⟨Q, hQ⟩ : ∃ Q, Q = AppendPost l fs w := ⟨_, rfl⟩
  rw [← hQ] at HBAD HOK ⊢
  obtain ⟨M, hM⟩ : ∃ M, M = l.length := ⟨_, rfl⟩
  obtain ⟨N, hN⟩ : ∃ N, N = fs.length := ⟨_, rfl⟩
  rw [← hM] at hm ⊢
  rw [← hN] at hn ⊢
  have HM := Lib.hid hM
  have HN := Lib.hid hN
  clear hb hf hQ hM hN
  go_enter Try.func9, Try.ntmps9
  go_wp2
  go_loopw [6, 8, 17] (fun t _ i wr => ∃ k : Nat, k ≤ N ∧ i = .int .i64 k ∧ Hid ((fs.take k).all fitF = true) ∧ ∃ T : Nat, t = .int .i64 T ∧ Hid (T = M + (encs (fs.take k)).length) ∧ ∃ s : HeldW w [], wr = s.w) (fun _ _ i _ => N - (intOf i).toNat)
  case atStart => exact ⟨0, by omega, rfl, Lib.hid (by simp), M, rfl, Lib.hid (by simp [encs]), HeldW.start w, rfl⟩
  case round =>
    obtain ⟨k, hk, rfl, hall, T, rfl, hT, s, rfl⟩ := hrel
    have hT2 : T ≤ M + 8 * N := by
      have h1 := encs_length hall.out
      have h2 : (fs.take k).length ≤ k := by rw [List.length_take]; omega
      have := hT.out
      omega
    by_cases hlt : k < N
    · obtain ⟨f, hfk⟩ : ∃ f, fs[k]? = some f := ⟨_, List.getElem?_eq_getElem (by rw [← HN.out]; exact hlt)⟩
      obtain ⟨b, o, rfl, x0, x1⟩ := (HF.out.below s.below).at hfk
      have hfit := fits_any f.1 f.2 (s.push (.cells #[.int .u64 f.1, .int .i64 f.2] 36 (0, 0))).w
      have HFK := Lib.hid hfk
      have hb2 := Lib.hid (fun h : fitB f.1 f.2 = true => fitB_size h)
      clear hfk
      cases hff : fitB f.1 f.2 with
      | false =>
        rw [hff] at hfit
        have HFF := Lib.hid hff
        clear hff hb2
        go_wp2_with fail
        refine (HeldW.call (s := s.push (.cells #[.int .u64 f.1, .int .i64 f.2] 36 (0, 0))) hfit).mono ?_
        rintro e _ ⟨rfl, s2, rfl⟩
        clear hfit x0 x1
        go_wp2
        exact HBAD.out (s2.sub (bs' := []) (by simp)) (all_not HFK.out HFF.out)
      | true =>
        obtain ⟨q1, q2⟩ := hb2.out hff
        rw [hff] at hfit
        have HFF := Lib.hid hff
        clear hff hb2
        go_wp2_with fail
        refine (HeldW.call (s := s.push (.cells #[.int .u64 f.1, .int .i64 f.2] 36 (0, 0))) hfit).mono ?_
        rintro e _ ⟨rfl, s2, rfl⟩
        clear hfit x0 x1
        have hblk := s2.blocks (_, _) List.mem_cons_self
        have y1 : s2.w.cell? ⟨s.w.heap.size, 1, none⟩ = some (.int .i64 f.2) := by rw [cell_of hblk]; rfl
        clear hblk
        go_wp2
        go_roundw
        case rel => exact ⟨k + 1, by omega, by go_num, Lib.hid (all_take HFK.out hall.out HFF.out), T + f.2.toNat, by go_num, Lib.hid (by rw [encs_snoc HFK.out, List.length_append, digs_length, hT.out]; omega), s2.sub (by simp), rfl⟩
        case measure => simp [intOf]; omega
    · obtain rfl : N = k := by omega
      have hmk := make_capG T (by omega)
      obtain ⟨so, hso⟩ := own_made s T (by omega)
      have HSO := Lib.hid hso
      clear hso
      obtain ⟨E, hE⟩ := elem8
      obtain ⟨EW, hEW⟩ := elemW8
      have HEW := Lib.hid hEW
      clear hE hEW
      have HSRC := Lib.hid (((HB.out.below s.below).below (by rw [HSO.out.symm]; exact (Below.refl _ _).alloc (Nat.le_refl _) _) : BytesIn so.w a l cap)).news
      have HML := Lib.hid (show M = (l.map (Value.int .u8)).length by rw [List.length_map]; exact HM.out)
      have HNI := Lib.hid (HB.out.nil2 (n := M) HM.out)
      have HALL := Lib.hid (show fs.all fitF = true by have := hall.out; rw [HN.out, List.take_length] at this; exact this)
      have HMB := Lib.hid (show M ≤ 1000000000 from hm)
      clear hall hT hT2
      go_wp2_with (rw [HSO.out]; refine wpList_append_src E so (l.map (Value.int .u8)) (.tmp 30) (.tmp 31) rfl rfl rfl a M cap HML.out rfl HNI.out HSRC.out (one_bytes _) (by rw [List.length_nil, List.length_map]; have := HMB.out; have := HM.out; omega) ?_; intro v1 s1)
      clear hmk HSRC HSO so
      obtain ⟨s1', hs1⟩ : ∃ s' : OwnW w 5 v1 (l.map (Value.int .u8)), s1.w = s'.w := ⟨s1.as (by simp), rfl⟩
      rw [hs1]
      clear hs1 s1
      obtain ⟨S0, hS0⟩ : ∃ S : Piles w [⟨5, 1, v1, M, l.map (Value.int .u8)⟩], s1'.w = S.w :=
        ⟨⟨s1'.w, s1'.below, all1 (Q := fun r : Row => r.At w.heap.size s1'.w) (by have := s1'.own; rw [List.length_map, ← HM.out] at this; exact this), List.pairwise_singleton _ _⟩, rfl⟩
      rw [hS0]
      clear hS0 s1'
      go_loopw [9, 11, 12, 35] (fun u _ _ i wr => ∃ k : Nat, k ≤ N ∧ i = .int .i64 k ∧ ∃ m : Nat, Hid (m = M + (encs (fs.take k)).length) ∧ ∃ S : Piles w [⟨5, 1, u, m, (l ++ encs (fs.take k)).map (Value.int .u8)⟩], wr = S.w) (fun _ _ _ i _ => N - (intOf i).toNat)
      case atStart => exact ⟨0, by omega, rfl, M, Lib.hid (by simp [encs]), by
        obtain ⟨S, hS⟩ := S0.conv (rs2 := [⟨5, 1, v1, M, (l ++ encs (fs.take 0)).map (Value.int .u8)⟩]) _ (by simp [encs]) (List.Perm.refl _)
        exact ⟨S, hS⟩⟩
      case round =>
        clear S0
        obtain ⟨k, hk, rfl, m, hm, S, rfl⟩ := hrel
        by_cases hlt : k < N
        · obtain ⟨f, hfk⟩ : ∃ f, fs[k]? = some f := ⟨_, List.getElem?_eq_getElem (by rw [← HN.out]; exact hlt)⟩
          have hfit := List.all_eq_true.1 HALL.out f (List.mem_of_getElem? hfk)
          have hsz := fitB_size hfit
          obtain ⟨v, z⟩ := f
          obtain ⟨n, rfl⟩ : ∃ n : Nat, z = n := ⟨z.toNat, by simp only at hsz; omega⟩
          simp only at hsz
          have hvb := (HF.out.ok _ (List.mem_of_getElem? hfk)).1
          obtain ⟨b, o, rfl, x0, x1⟩ := (HF.out.below S.below).at hfk
          have HFK := Lib.hid hfk
          have hmb : m ≤ M + 8 * N := by
            have h1 := encs_length (fs := fs.take k) (by rw [List.all_eq_true]; exact fun f hf => List.all_eq_true.1 HALL.out f (List.mem_of_mem_take hf))
            have h2 : (fs.take k).length ≤ k := by rw [List.length_take]; omega
            have := hm.out
            omega
          simp only at hvb x0 x1
          clear hfk hfit
          go_wp2
          obtain ⟨B, S1, hB, hS1⟩ : ∃ (B : Nat) (S1 : Piles w [fRow B (v, n), ⟨5, 1, u9, m, (l ++ encs (fs.take k)).map (Value.int .u8)⟩]), S.w.heap.size = B ∧ S.w.alloc (.cells #[.int .u64 v, .int .i64 n] 36) = S1.w := by
            obtain ⟨S1, h⟩ := S.box 36 #[.int .u64 v, .int .i64 n] 2 rfl
            exact ⟨_, S1, rfl, h⟩
          rw [hS1, hB]
          clear hS1 hB x0 x1 S
          go_loopw [9, 12] (fun u i wr => ∃ j : Nat, j ≤ n ∧ i = .int .i64 ((n : Int) - 1 - j) ∧ ∃ S : Piles w [fRow B (v, n), ⟨5, 1, u, m + j, (l ++ encs (fs.take k) ++ digs v n j).map (Value.int .u8)⟩], wr = S.w) (fun _ i _ => (intOf i + 1).toNat)
          case atStart => exact ⟨0, by omega, by simp, by
            obtain ⟨S, hS⟩ := S1.conv (rs2 := [fRow B (v, n), ⟨5, 1, u9, m + 0, (l ++ encs (fs.take k) ++ digs v n 0).map (Value.int .u8)⟩]) _ (by simp [digs]) (List.Perm.refl _)
            exact ⟨S, hS⟩⟩
          case round =>
            clear S1
            obtain ⟨j, hj, rfl, S, rfl⟩ := hrel
            obtain ⟨hBl, hcells⟩ := S.boxCells (b := B) (t := 36) (size := 2) (xs := [.int .u64 v, .int .i64 n]) List.mem_cons_self
            have y0 := hcells 0 _ rfl
            by_cases hjn : j < n
            · have HEB := Lib.hid (show (m + j + 1) * EW.bytes ≤ 140737488355328 by rw [HEW.out]; omega)
              have HM63 := Lib.hid (show m + j + 1 ≤ maxLen by unfold maxLen; omega)
              obtain ⟨C, A, hvw, -⟩ : ∃ (A : Option Addr) (C : Nat), u9 = .slice A (m + j) C ∧ True := by
                obtain ⟨A, C, h1, -⟩ := S.view (r := ⟨5, 1, u9, m + j, (l ++ encs (fs.take k) ++ digs v n j).map (Value.int .u8)⟩) (by simp)
                exact ⟨A, C, h1, trivial⟩
              subst hvw
              clear hcells
              go_wp2_with (refine wpList_append_one EW S (.int .u8 (v / 2 ^ (8 * (n - 1 - j)) % 256)) rfl (.tmp 46) (.tmp 53) rfl rfl rfl rfl HM63.out HEB.out ?_; intro v' S2)
              go_roundw
              case rel => exact ⟨j + 1, by omega, by go_num, by
                obtain ⟨S3, hS3⟩ := S2.conv (rs2 := [fRow B (v, n), ⟨5, 1, v', m + (j + 1), (l ++ encs (fs.take k) ++ digs v n (j + 1)).map (Value.int .u8)⟩]) [⟨5, 1, v', m + (j + 1), (l ++ encs (fs.take k) ++ digs v n (j + 1)).map (Value.int .u8)⟩, fRow B (v, n)] (by rw [digs_succ]; simp [Nat.add_assoc]) (List.Perm.swap _ _ _)
                exact ⟨S3, hS3⟩⟩
              case measure => simp [intOf]; omega
            · obtain rfl : n = j := by omega
              clear hcells y0
              go_wp2
              go_roundw
              case rel =>
                obtain ⟨S2, hS2⟩ := S.sub (List.sublist_cons_self _ _)
                obtain ⟨S3, hS3⟩ := S2.conv (rs2 := [⟨5, 1, u9, m + n, (l ++ encs (fs.take (k + 1))).map (Value.int .u8)⟩]) _ (by rw [encs_snoc HFK.out]; simp [enc1]) (List.Perm.refl _)
                exact ⟨k + 1, by omega, by go_num, m + n, Lib.hid (by rw [encs_snoc HFK.out, List.length_append, digs_length, hm.out]; simp only [Int.toNat_natCast]; omega), S3, hS2.trans hS3⟩
              case measure => simp [intOf]; omega
        · obtain rfl : N = k := by omega
          have HTK := Lib.hid (show fs.take N = fs by rw [HN.out, List.take_length])
          go_wp2
          obtain ⟨S2, hS2⟩ := S.conv (rs2 := [⟨5, 1, u9, m, (l ++ encs fs).map (Value.int .u8)⟩]) _ (by rw [HTK.out]) (List.Perm.refl _)
          have hr := S2.rows _ List.mem_cons_self
          have hlen := hr.1
          simp only [Nat.mul_one] at hlen
          rw [hS2]
          exact HOK.out _ ⟨S2.w, S2.below, by rw [hlen]; exact hr⟩ HALL.out
end Go.Proofs.Ytclalbiggnalfaa
