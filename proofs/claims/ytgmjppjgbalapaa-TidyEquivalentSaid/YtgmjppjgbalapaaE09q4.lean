import Derived.Test.YtgmjppjgbalapaaE09q3
import Derived.Test.YtgmjppjgbalapaaE09q2
import Derived.BigRegion
import Derived.Laws.BytesString
import Derived.Laws.StructEq
/- Overlap of package extent and of its reference: the same extent at every two valid extents. -/
namespace Go.Proofs.Ytgmjppjgbalapaa
open Go.RowKit Go.Shelf Go.Proofs.Ytgmjppjgbalapaa.Plain01

/-- Three new blocks. -/
theorem three_ext (w : World) (o0 o1 o2 : Obj) : (((w.alloc o0).alloc o1).alloc o2).heap[w.heap.size]? = some o0 ∧ (((w.alloc o0).alloc o1).alloc o2).heap[w.heap.size + 1]? = some o1 ∧ (((w.alloc o0).alloc o1).alloc o2).heap[w.heap.size + 1 + 1]? = some o2 ∧ Below w.heap.size w (((w.alloc o0).alloc o1).alloc o2) :=
  ⟨heap_old (heap_old (heap_new w o0 rfl) _) _, heap_old (heap_new _ o1 (by simp)) _, heap_new _ o2 (by simp), (((Below.refl _ w).alloc (Nat.le_refl _) _).alloc (by simp) _).alloc (by simp; omega) _⟩

/-- The blocks of a function of two extents: the two boxed arguments, the result. -/
abbrev args2 (w : World) (a b : Int × Int) : List (Nat × Obj) := [(w.heap.size, extO a), (w.heap.size + 1, extO b), (w.heap.size + 1 + 1, extO (0, 0))]

set_option maxRecDepth 100000 in
set_option maxHeartbeats 4000000 in
theorem roverlap_gives (a b : Int × Int) (ha : okE a = true) (hb : okE b = true) (w : World) : Calls Try.prog 68 #[extV a, extV b] w (Gives (extV (ovl a b)) w) := by
  obtain ⟨a0, a1, a2⟩ := okE_iff.1 ha
  obtain ⟨b0, b1, b2⟩ := okE_iff.1 hb
  clear ha hb
  by_cases c3 : min (a.1 + a.2) (b.1 + b.2) ≤ max a.1 b.1 <;> by_cases c1 : a.1 < b.1 <;> by_cases c2 : b.1 + b.2 < a.1 + a.2
  all_goals
    go_enter Try.func68, Try.ntmps68
    go_wp2
    first
      | (have hv := (ovl_no c3).1)
      | (have hv := (ovl_yes (a := a) (b := b) (lo := b.1) (hi := b.1 + b.2) (by omega) (by omega) (by omega)).1)
      | (have hv := (ovl_yes (a := a) (b := b) (lo := b.1) (hi := a.1 + a.2) (by omega) (by omega) (by omega)).1)
      | (have hv := (ovl_yes (a := a) (b := b) (lo := a.1) (hi := b.1 + b.2) (by omega) (by omega) (by omega)).1)
      | (have hv := (ovl_yes (a := a) (b := b) (lo := a.1) (hi := a.1 + a.2) (by omega) (by omega) (by omega)).1)
    rw [hv]
    clear hv
    refine bodyPost_ret (v := .agg #[.int .i64 _, .int .i64 _]) (by simp [results, Try.results68, go_sem]) rfl ⟨rfl, ?_⟩
    exact (((Below.refl _ w).alloc (Nat.le_refl _) _).alloc (by simp) _).alloc (by simp; omega) _
end Go.Proofs.Ytgmjppjgbalapaa

/- Target, Source and Overlaps of package command; Overlaps of its reference. -/
namespace Go.Proofs.Ytgmjppjgbalapaa
open Go.RowKit Go.Shelf Go.Proofs.Ytgmjppjgbalapaa.Plain01
set_option linter.unusedVariables false

theorem desc_target (x0 x1 x2 x3 x4 : Int) (b : Bool) (W : World) : (Instr.field 87 (.agg #[.int .i64 x0, .int .i64 x1, .int .i64 x2, .int .i64 x3, .int .i64 x4, .bool b]) 0).run Try.prog W = .ok (extV (x0, x1)) W := by kernel_rfl
theorem ext_len (y0 y1 : Int) (W : World) : (Instr.field 52 (.agg #[.int .i64 y0, .int .i64 y1]) 1).run Try.prog W = .ok (.int .i64 y1) W := by kernel_rfl

set_option maxRecDepth 100000 in
set_option maxHeartbeats 4000000 in
theorem target_of_desc (k t f n : Int) (v : Value) (x0 x1 x2 x3 x4 : Int) (b : Bool)
    (hd : ∀ w, Calls Try.prog 66 #[cmdV k t f n v] w (Gives (.agg #[.int .i64 x0, .int .i64 x1, .int .i64 x2, .int .i64 x3, .int .i64 x4, .bool b]) w)) (w : World) :
    Calls Try.prog 54 #[cmdV k t f n v] w (Gives (extV (x0, x1)) w) := by
  have hfl := desc_target x0 x1 x2 x3 x4 b
  go_enter Try.func54, Try.ntmps54
  go_wp2_with fail
  refine (HeldW.call (s := ((HeldW.start w).push (cmdO k t f n v)).push (extO (0, 0))) (hd _)).mono ?_
  rintro e _ ⟨rfl, s1, rfl⟩
  obtain ⟨r0, r1, r2⟩ := held_ext1 s1 (w.heap.size + 1) (0, 0) (by simp)
  go_wp2_with fail
  go_wp2
  refine bodyPost_ret (v := extV (x0, x1)) (by simp [results, Try.results54, go_sem, r0, r1]) rfl ⟨rfl, ?_⟩
  exact (s1.below.setCell (p := ⟨w.heap.size + 1, 0, none⟩) (by simp) _).setCell (p := ⟨w.heap.size + 1, 1, none⟩) (by simp) _

set_option maxRecDepth 100000 in
set_option maxHeartbeats 4000000 in
theorem source_of_desc (k t f n : Int) (v : Value) (x0 x1 x2 x3 x4 : Int) (b : Bool)
    (hd : ∀ w, Calls Try.prog 66 #[cmdV k t f n v] w (Gives (.agg #[.int .i64 x0, .int .i64 x1, .int .i64 x2, .int .i64 x3, .int .i64 x4, .bool b]) w)) (w : World) :
    Calls Try.prog 55 #[cmdV k t f n v] w (Gives (.tuple #[extV (x3, x4), .bool (x2 == 1)]) w) := by
  go_enter Try.func55, Try.ntmps55
  go_wp2_with fail
  obtain ⟨S0, hS0⟩ := start2 w (cmdO k t f n v) (extO (0, 0))
  rw [hS0]
  clear hS0
  refine (HeldW.call (s := S0) (hd _)).mono ?_
  rintro e _ ⟨rfl, s1, rfl⟩
  obtain ⟨r0, r1, r2⟩ := held_ext1 s1 (w.heap.size + 1) (0, 0) (by simp)
  go_wp2_with fail
  have hlt := (Array.getElem?_eq_some_iff.1 (s1.blocks (w.heap.size + 1, extO (0, 0)) (by simp))).1
  obtain ⟨B, S, hB, hB0, hS⟩ := s1.more (descO x0 x1 x2 x3 x4 b)
  have hne : B ≠ w.heap.size + 1 := by omega
  rw [hS, ← hB]
  clear hS hB hlt r0 r1 r2
  obtain ⟨r0, r1, r2⟩ := held_ext1 S (w.heap.size + 1) (0, 0) (by simp)
  obtain ⟨d0, d1, d2, d3, d4, d5, d6⟩ := held_desc S B x0 x1 x2 x3 x4 b (by simp)
  go_region
  go_wp2
  refine bodyPost_ret (v := .tuple #[extV (x3, x4), .bool (x2 == 1)]) (by simp [results, Try.results55, go_sem, r0, r1]) rfl ⟨rfl, ?_⟩
  exact ((S.below.setCell (p := ⟨w.heap.size + 1, 0, none⟩) (by simp) _).setCell (p := ⟨w.heap.size + 1, 1, none⟩) (by simp) _).drew

theorem mtarget_any (k t f n : Int) (hk : k = 1 ∨ k = 2) (a : Option Addr) (L cap : Nat) (w : World) : Calls Try.prog 54 #[cmdV k t f n (.slice a L cap)] w (Gives (extV (t, wlen k n L)) w) := by
  have hd := fun w => describe_any k t f n a L cap w
  rcases hk with rfl | rfl
  · simp only [descA_copy] at hd
    have he : wlen 1 n L = n := by unfold wlen; rw [if_pos rfl]
    rw [he]
    exact target_of_desc 1 t f n _ t n 1 f n _ hd w
  · simp only [descA_lit] at hd
    have he : wlen 2 n L = L := by unfold wlen; rw [if_neg (by omega)]
    rw [he]
    exact target_of_desc 2 t f n _ t L 2 0 0 _ hd w
theorem msource_copy (t f n : Int) (a : Option Addr) (L cap : Nat) (w : World) : Calls Try.prog 55 #[cmdV 1 t f n (.slice a L cap)] w (Gives (.tuple #[extV (f, n), .bool true]) w) := by
  have hd := fun w => describe_any 1 t f n a L cap w
  simp only [descA_copy] at hd
  exact source_of_desc 1 t f n _ t n 1 f n _ hd w
theorem msource_lit (t f n : Int) (a : Option Addr) (L cap : Nat) (w : World) : Calls Try.prog 55 #[cmdV 2 t f n (.slice a L cap)] w (Gives (.tuple #[extV (0, 0), .bool false]) w) := by
  have hd := fun w => describe_any 2 t f n a L cap w
  simp only [descA_lit] at hd
  exact source_of_desc 2 t f n _ t L 2 0 0 _ hd w

/-- Whether a command writes bytes that it reads. -/
def selfB (k t f n : Int) : Bool := decide (k = 1) && decide (0 < (ovl (f, n) (t, n)).2)
theorem ovlB_comm (t f n : Int) : ovlB (t, n) (f, n) = decide (0 < (ovl (f, n) (t, n)).2) := by
  unfold ovlB ovl
  simp only
  by_cases h : min (f + n) (t + n) ≤ max f t
  · rw [if_pos h]; simp; omega
  · rw [if_neg h]; simp; omega
end Go.Proofs.Ytgmjppjgbalapaa

/- Strings out of bytes. -/
namespace Go.Proofs.Ytgmjppjgbalapaa
open Go.RowKit
set_option linter.unusedVariables false

/-- A string out of its bytes. -/
def strOf (l : List Int) : ByteArray := l.foldl (fun r n => r.push (UInt8.ofNat n.toNat)) ByteArray.empty
theorem push_data (l : List Int) : ∀ r : ByteArray, (l.foldl (fun r n => r.push (UInt8.ofNat n.toNat)) r).data = r.data ++ (l.map (fun n => UInt8.ofNat n.toNat)).toArray := by
  induction l with
  | nil => intro r; simp
  | cons x l ih => intro r; rw [List.foldl_cons, ih]; simp [ByteArray.push]
theorem strOf_data (l : List Int) : (strOf l).data = (l.map (fun n => UInt8.ofNat n.toNat)).toArray := by
  unfold strOf; rw [push_data]; simp [ByteArray.empty, ByteArray.emptyWithCapacity]; rfl
theorem strOf_append (l m : List Int) : strOf (l ++ m) = strOf l ++ strOf m := by
  apply ByteArray.ext
  rw [ByteArray.data_append, strOf_data, strOf_data, strOf_data, List.map_append]
  simp
theorem strOf_size (l : List Int) : (strOf l).size = l.length := by
  have key : ∀ (l : List Int) (r : ByteArray), (l.foldl (fun r n => r.push (UInt8.ofNat n.toNat)) r).size = r.size + l.length := by
    intro l
    induction l with
    | nil => intro r; simp
    | cons x l ih => intro r; rw [List.foldl_cons, ih, ByteArray.size_push, List.length_cons]; omega
  unfold strOf
  rw [key]
  simp
theorem u8_inj {x y : Int} (hx : 0 ≤ x ∧ x < 256) (hy : 0 ≤ y ∧ y < 256) (h : UInt8.ofNat x.toNat = UInt8.ofNat y.toNat) : x = y := by
  have h2 := congrArg UInt8.toNat h
  simp only [UInt8.toNat_ofNat'] at h2
  omega
theorem strOf_inj {l m : List Int} (hl : OkB l) (hm : OkB m) (h : strOf l = strOf m) : l = m := by
  have h1 := congrArg ByteArray.data h
  rw [strOf_data, strOf_data] at h1
  have h2 : l.map (fun n => UInt8.ofNat n.toNat) = m.map (fun n => UInt8.ofNat n.toNat) := by simpa using h1
  clear h h1
  induction l generalizing m with
  | nil => cases m with
    | nil => rfl
    | cons y m => cases h2
  | cons x l ih => cases m with
    | nil => cases h2
    | cons y m =>
      simp only [List.map_cons, List.cons.injEq] at h2
      rw [u8_inj (hl x List.mem_cons_self) (hm y List.mem_cons_self) h2.1, ih (fun z hz => hl z (List.mem_cons_of_mem _ hz)) (fun z hz => hm z (List.mem_cons_of_mem _ hz)) h2.2]

/-- The walk's comparison of two strings. -/
theorem str_eq {l m : List Int} (hl : OkB l) (hm : OkB m) : ((strOf l).toList == (strOf m).toList) = decide (l = m) := by
  by_cases h : l = m
  · subst h
    rw [decide_eq_true rfl]
    exact beq_self_eq_true _
  · rw [decide_eq_false h]
    refine beq_eq_false_iff_ne.2 fun he => h (strOf_inj hl hm ?_)
    rw [ByteArray.toList_eq, ByteArray.toList_eq] at he
    exact ByteArray.ext (Array.toList_inj.1 he)

theorem conv_str {w : World} {a : Option Addr} {l : List Int} {cap : Nat} (h : BytesIn w a l cap) : (convert 24 9 (.slice a l.length cap)).run Try.prog w = .ok (.string (strOf l)) w := by
  rw [run_convert_bytes_string w 24 9 5 _ _ _ Try.underlying24 Try.underlying5 Try.underlying9]
  cases a with
  | none =>
    obtain rfl : l = [] := List.eq_nil_of_length_eq_zero (by have := h.nil rfl; have := h.len; omega)
    rfl
  | some ad =>
    refine run_bytesToString w ad l.length cap l ?_
    have hc := run_loadCells_list (P := Try.prog) w ad (l.map (Value.int .u8)) (fun j u hu => by
      have hj := (List.getElem?_eq_some_iff.1 hu).1
      rw [List.length_map] at hj
      obtain ⟨b, o, h1, hc⟩ := h.cells (by omega)
      obtain rfl := Option.some.inj h1
      rw [Addr.add_mid, hc j hj]
      rw [List.getElem?_map] at hu
      obtain ⟨x, hx, rfl⟩ := Option.map_eq_some_iff.1 hu
      rw [hx]; rfl)
    rwa [List.length_map] at hc
end Go.Proofs.Ytgmjppjgbalapaa

/- Same of package command and of its reference; bytes.Equal; Copy. -/
namespace Go.Proofs.Ytgmjppjgbalapaa
open Go.RowKit Go.Shelf Go.Proofs.Ytgmjppjgbalapaa.Plain01
set_option linter.unusedVariables false

/-- Two commands have the same fields. -/
def sameB (k t f n : Int) (l : List Int) (k' t' f' n' : Int) (m : List Int) : Bool := decide (k = k' ∧ t = t' ∧ f = f' ∧ n = n' ∧ l = m)
theorem sameB_refl (k t f n : Int) (l : List Int) : sameB k t f n l k t f n l = true := by simp [sameB]

set_option maxRecDepth 100000 in
set_option maxHeartbeats 4000000 in
theorem rsame_core (k t f n k' t' f' n' : Int) (l m : List Int) (a b : Option Addr) (cap cap' : Nat) (w : World) (hl : BytesIn w a l cap) (hm : BytesIn w b m cap') (hst : ((strOf l).toList == (strOf m).toList) = decide (l = m)) :
    Calls Try.prog 32 #[cmdV k t f n (.slice a l.length cap), cmdV k' t' f' n' (.slice b m.length cap')] w (Gives (.bool (sameB k t f n l k' t' f' n' m)) w) := by
  have hB := below2 w (cmdO k t f n (.slice a l.length cap)) (cmdO k' t' f' n' (.slice b m.length cap'))
  by_cases c1 : k = k'
  · by_cases c2 : t = t'
    · by_cases c3 : f = f'
      · by_cases c4 : n = n'
        · have hr : sameB k t f n l k' t' f' n' m = decide (l = m) := by simp [sameB, c1, c2, c3, c4]
          rw [hr]
          subst c1 c2 c3 c4
          have h1 := conv_str (hl.below hB)
          have h2 := conv_str (hm.below hB)
          have he := hst
          generalize decide (l = m) = d at he ⊢
          generalize strOf l = x at h1 he
          generalize strOf m = y at h2 he
          generalize l.length = L at h1 h2 hB ⊢
          generalize m.length = M at h1 h2 hB ⊢
          have HE := Lib.hid he
          have HB := Lib.hid hB
          clear hl hm hst he hr hB
          go_enter Try.func32, Try.ntmps32
          go_wp2
          go_ret
          exact ⟨by (rw [HE.out]; rfl), HB.out⟩
        · have hr : sameB k t f n l k' t' f' n' m = false := by simp [sameB, c4]
          rw [hr]
          have e4 : (n == n') = false := by simpa using c4
          subst c1 c2 c3
          generalize l.length = L at hB ⊢
          generalize m.length = M at hB ⊢
          have HB := Lib.hid hB
          clear hl hm hst hr hB c4
          go_enter Try.func32, Try.ntmps32
          go_wp2
          go_ret
          exact ⟨rfl, HB.out⟩
      · have hr : sameB k t f n l k' t' f' n' m = false := by simp [sameB, c3]
        rw [hr]
        have e3 : (f == f') = false := by simpa using c3
        subst c1 c2
        generalize l.length = L at hB ⊢
        generalize m.length = M at hB ⊢
        have HB := Lib.hid hB
        clear hl hm hst hr hB c3
        go_enter Try.func32, Try.ntmps32
        go_wp2
        go_ret
        exact ⟨rfl, HB.out⟩
    · have hr : sameB k t f n l k' t' f' n' m = false := by simp [sameB, c2]
      rw [hr]
      have e2 : (t == t') = false := by simpa using c2
      subst c1
      generalize l.length = L at hB ⊢
      generalize m.length = M at hB ⊢
      have HB := Lib.hid hB
      clear hl hm hst hr hB c2
      go_enter Try.func32, Try.ntmps32
      go_wp2
      go_ret
      exact ⟨rfl, HB.out⟩
  · have hr : sameB k t f n l k' t' f' n' m = false := by simp [sameB, c1]
    rw [hr]
    have e1 : (k == k') = false := by simpa using c1
    generalize l.length = L at hB ⊢
    generalize m.length = M at hB ⊢
    have HB := Lib.hid hB
    clear hl hm hst hr hB c1
    go_enter Try.func32, Try.ntmps32
    go_wp2
    go_ret
    exact ⟨rfl, HB.out⟩
theorem rsame_any (k t f n k' t' f' n' : Int) (l m : List Int) (a b : Option Addr) (cap cap' : Nat) (w : World) (hl : BytesIn w a l cap) (hm : BytesIn w b m cap') (okl : OkB l) (okm : OkB m) :
    Calls Try.prog 32 #[cmdV k t f n (.slice a l.length cap), cmdV k' t' f' n' (.slice b m.length cap')] w (Gives (.bool (sameB k t f n l k' t' f' n' m)) w) :=
  rsame_core k t f n k' t' f' n' l m a b cap cap' w hl hm (str_eq okl okm)
theorem rsame_refl (k t f n : Int) (l : List Int) (a b : Option Addr) (cap cap' : Nat) (w : World) (hl : BytesIn w a l cap) (hm : BytesIn w b l cap') :
    Calls Try.prog 32 #[cmdV k t f n (.slice a l.length cap), cmdV k t f n (.slice b l.length cap')] w (Gives (.bool true) w) := by
  have h := rsame_core k t f n k t f n l l a b cap cap' w hl hm (by simp)
  rwa [sameB_refl] at h

end Go.Proofs.Ytgmjppjgbalapaa

/- Part of package command: no part, and the part of a Copy. -/
namespace Go.Proofs.Ytgmjppjgbalapaa
open Go.RowKit Go.Shelf Go.Proofs.Ytgmjppjgbalapaa.Plain01
set_option linter.unusedVariables false

/-- Five cells of a new block are written. -/
theorem below_put5 {B : Nat} {a w : World} (h : Below B a w) {b : Nat} (hb : B ≤ b) (v0 v1 v2 v3 v4 : Value) : Below B a (((((w.setCell ⟨b, 0, none⟩ v0).setCell ⟨b, 1, none⟩ v1).setCell ⟨b, 2, none⟩ v2).setCell ⟨b, 3, none⟩ v3).setCell ⟨b, 4, none⟩ v4) :=
  ((((h.setCell (p := ⟨b, 0, none⟩) hb _).setCell (p := ⟨b, 1, none⟩) hb _).setCell (p := ⟨b, 2, none⟩) hb _).setCell (p := ⟨b, 3, none⟩) hb _).setCell (p := ⟨b, 4, none⟩) hb _

/-- The zero command and false. -/
abbrev noPart : Value := .tuple #[cmdV 0 0 0 0 (.slice none 0 0), .bool false]

end Go.Proofs.Ytgmjppjgbalapaa

/- The example of the chapter. -/
namespace Go.Proofs.Ytgmjppjgbalapaa
open Go.RowKit Go.Shelf Go.Proofs.Ytgmjppjgbalapaa.Plain01
set_option linter.unusedVariables false

theorem bytes_nil (w : World) : BytesIn w none [] 0 := ⟨by simp, by omega, fun h => absurd h (by simp), fun _ => rfl⟩
theorem okB_nil : OkB [] := fun x hx => absurd hx (by simp)
theorem rsame_nil (k t f n k' t' f' n' : Int) (w : World) : Calls Try.prog 32 #[cmdV k t f n (.slice none 0 0), cmdV k' t' f' n' (.slice none 0 0)] w (Gives (.bool (sameB k t f n [] k' t' f' n' [])) w) :=
  rsame_any k t f n k' t' f' n' [] [] none none 0 0 w (bytes_nil w) (bytes_nil w) okB_nil okB_nil
end Go.Proofs.Ytgmjppjgbalapaa

/- CommandExtents returns true for every command, and changes nothing that was there. -/
namespace Go.Proofs.Ytgmjppjgbalapaa
open Go.RowKit Go.Shelf Go.Proofs.Ytgmjppjgbalapaa.Plain01
set_option linter.unusedVariables false

/-- What a valid command is. -/
theorem chk_ok {k t f n : Int} {L : Nat} (h : chk k t f n L = 0) : (k = 1 ∧ L = 0 ∧ n ≠ 0 ∧ okE (t, n) = true ∧ okE (f, n) = true) ∨ (k = 2 ∧ f = 0 ∧ n = 0 ∧ 0 < L ∧ okE (t, (L : Int)) = true) := by
  unfold chk wlen at h
  by_cases h1 : k = 1
  · subst h1
    simp only [if_true] at h
    rw [if_neg (by omega)] at h
    left
    by_cases hn : n = 0
    · rw [if_pos hn] at h; omega
    rw [if_neg hn] at h
    cases o1 : okE (t, n) with
    | false => rw [o1, if_pos rfl] at h; omega
    | true =>
      rw [o1, if_neg (by simp)] at h
      cases o2 : okE (f, n) with
      | false => rw [if_pos ⟨trivial, .inr o2⟩] at h; omega
      | true =>
        by_cases hL : 0 < L
        · rw [if_pos ⟨trivial, .inl hL⟩] at h; omega
        · exact ⟨rfl, by omega, hn, rfl, rfl⟩
  · by_cases h2 : k = 2
    · subst h2
      simp only [show ¬ ((2 : Int) = 1) by omega, if_false] at h
      rw [if_neg (by omega)] at h
      right
      by_cases hn : (L : Int) = 0
      · rw [if_pos hn] at h; omega
      rw [if_neg hn] at h
      cases o1 : okE (t, (L : Int)) with
      | false => rw [o1, if_pos rfl] at h; omega
      | true =>
        rw [o1, if_neg (by simp), if_neg (by simp)] at h
        by_cases hf : f ≠ 0 ∨ n ≠ 0
        · rw [if_pos ⟨trivial, hf⟩] at h; omega
        · exact ⟨rfl, by omega, by omega, by omega, rfl⟩
    · rw [if_pos ⟨h1, h2⟩] at h; omega

end Go.Proofs.Ytgmjppjgbalapaa
