import Derived.BigQuiet
import Derived.Shelf.Abstract
import Derived.Test.YtfomidjhmdmmcaaE10f2
import Derived.Test.YtfomidjhmdmmcaaE10f3
import Derived.Test.YtfomidjhmdmmcaaE10f1
import Derived.Shelf.SlSortCmp.Whole1
import Derived.Shelf.SlGeneric
import Derived.Ground.SlsfProg
/- An index: its memory; Len, the search for the first extent that ends behind an offset, Find. -/
namespace Go.Proofs.Ytfomidjhmdmmcaa
open Go.RowKit Go.Shelf Go.Proofs.Ytfomidjhmdmmcaa.Plain01
set_option linter.unusedVariables false
set_option linter.unusedSimpArgs false

abbrev rowP10 (l : List Nat) : Obj := .cells (l.map fun i : Nat => Value.int .i64 i).toArray 3 (0, 0)
abbrev idxO (a : Option Addr) (n cap g : Nat) : Obj := .cells #[.slice a n cap, .slice (some ⟨g, 0, none⟩) n n] 51 (0, 0)
/-- The extents in ascending order. -/
def srt10 (es : List (Int × Int)) : List (Int × Int) := sel10 es (ord10 es)
theorem srt10_length (es : List (Int × Int)) : (srt10 es).length = es.length := by unfold srt10; rw [sel10_length, ord10_length]
theorem srt10_right {es : List (Int × Int)} (h : Right10 es) : Right10 (srt10 es) := (right_perm (sel10_perm (ord10_perm es))).2 h
theorem srt10_sep {es : List (Int × Int)} (h : Right10 es) : Sep10 (srt10 es) := (asc_sep h (ord10_perm es) (ord10_asc es)).1
theorem srt10_at {es : List (Int × Int)} (h : Right10 es) {i : Nat} (hi : i < es.length) : okE (at10 (srt10 es) i) = true ∧ 0 < (at10 (srt10 es) i).2 := right_at (srt10_right h) (by rw [srt10_length]; exact hi)
/-- The memory of an index. -/
structure Idx10 (w : World) (B : Nat) (a : Option Addr) (cap g : Nat) (es : List (Int × Int)) : Prop where
  box : w.heap[B]? = some (idxO a es.length cap g)
  row : ExtSlice w a es.length (at10 (srt10 es))
  pos : w.heap[g]? = some (rowP10 (ord10 es))
  few : es.length ≤ 1000000
  lcap : es.length ≤ cap
  capb : cap ≤ 9223372036854775807
theorem Idx10.below {w w' : World} {B cap g : Nat} {a : Option Addr} {es : List (Int × Int)} (h : Idx10 w B a cap g es) (hb : Below w.heap.size w w') : Idx10 w' B a cap g es :=
  ⟨heap_below h.box hb, h.row.below hb, heap_below h.pos hb, h.few, h.lcap, h.capb⟩
theorem Idx10.c0 {w : World} {B cap g : Nat} {a : Option Addr} {es : List (Int × Int)} (h : Idx10 w B a cap g es) : w.cell? ⟨B, 0, none⟩ = some (.slice a es.length cap) := cell_of h.box 0
theorem Idx10.c1 {w : World} {B cap g : Nat} {a : Option Addr} {es : List (Int × Int)} (h : Idx10 w B a cap g es) : w.cell? ⟨B, 1, none⟩ = some (.slice (some ⟨g, 0, none⟩) es.length es.length) := cell_of h.box 1
theorem Idx10.p {w : World} {B cap g : Nat} {a : Option Addr} {es : List (Int × Int)} (h : Idx10 w B a cap g es) {k i : Nat} (hk : (ord10 es)[k]? = some i) : w.cell? ⟨g, k, none⟩ = some (.int .i64 i) := by
  rw [cell_of h.pos]
  simp [hk]

theorem xlen_any (B cap g : Nat) (a : Option Addr) (es : List (Int × Int)) (w : World) (h : Idx10 w B a cap g es) : Calls Try.prog 12 #[.pointer (some ⟨B, 0, none⟩)] w fun e w' => e = .returned (.int .i64 es.length) ∧ w' = w := by
  have c0 := h.c0
  clear h
  generalize es.length = L at *
  go_enter Try.func12, Try.ntmps12
  go_wp2
  go_ret
  exact ⟨rfl, rfl⟩
theorem xlen_nil (w : World) : Calls Try.prog 12 #[.pointer none] w fun e w' => e = .returned (.int .i64 0) ∧ w' = w := by
  go_enter Try.func12, Try.ntmps12
  go_wp2
  go_ret
  exact ⟨rfl, rfl⟩

abbrev boxX10 (p : Option Addr) : Obj := .cells #[.pointer p] 24 (0, 0)
abbrev boxI10 (x : Int) : Obj := .cells #[.int .i64 x] 3 (0, 0)
set_option maxRecDepth 100000 in
set_option maxHeartbeats 4000000 in
theorem afterC_any (Bx Bo B cap g : Nat) (a : Option Addr) (es : List (Int × Int)) (hR : Right10 es) (off : Int) (i : Nat) (w : World) (h : Idx10 w B a cap g es) (hx : w.heap[Bx]? = some (boxX10 (some ⟨B, 0, none⟩))) (ho : w.heap[Bo]? = some (boxI10 off)) (hi : i < es.length) :
    Calls Try.prog 44 #[.int .i64 i, .pointer (some ⟨Bx, 0, none⟩), .pointer (some ⟨Bo, 0, none⟩)] w (Gives (.bool (decide (off < (at10 (srt10 es) i).1 + (at10 (srt10 es) i).2))) w) := by
  obtain ⟨b, o, rfl, hr⟩ := h.row (by omega)
  have hbl : ∀ p ∈ [(Bx, boxX10 (some ⟨B, 0, none⟩)), (Bo, boxI10 off), (B, idxO (some ⟨b, o, none⟩) es.length cap g)], w.heap[p.1]? = some p.2 := all3 hx ho h.box
  have d0 : ∀ s : HeldW w [(Bx, boxX10 (some ⟨B, 0, none⟩)), (Bo, boxI10 off), (B, idxO (some ⟨b, o, none⟩) es.length cap g)], s.w.cell? ⟨Bx, 0, none⟩ = some (.pointer (some ⟨B, 0, none⟩)) := fun s => cell_of (s.blocks (Bx, boxX10 (some ⟨B, 0, none⟩)) (by simp)) 0
  have d1 : ∀ s : HeldW w [(Bx, boxX10 (some ⟨B, 0, none⟩)), (Bo, boxI10 off), (B, idxO (some ⟨b, o, none⟩) es.length cap g)], s.w.cell? ⟨Bo, 0, none⟩ = some (.int .i64 off) := fun s => cell_of (s.blocks (Bo, boxI10 off) (by simp)) 0
  have d2 : ∀ s : HeldW w [(Bx, boxX10 (some ⟨B, 0, none⟩)), (Bo, boxI10 off), (B, idxO (some ⟨b, o, none⟩) es.length cap g)], s.w.cell? ⟨B, 0, none⟩ = some (.slice (some ⟨b, o, none⟩) es.length cap) := fun s => cell_of (s.blocks (B, idxO (some ⟨b, o, none⟩) es.length cap g) (by simp)) 0
  have hlt := hr.lt (by omega)
  have d3 := fun s : HeldW w [(Bx, boxX10 (some ⟨B, 0, none⟩)), (Bo, boxI10 off), (B, idxO (some ⟨b, o, none⟩) es.length cap g)] => (hr.below s.below hlt i hi).1
  have d4 := fun s : HeldW w [(Bx, boxX10 (some ⟨B, 0, none⟩)), (Bo, boxI10 off), (B, idxO (some ⟨b, o, none⟩) es.length cap g)] => (hr.below s.below hlt i hi).2
  have hE := end_gives (at10 (srt10 es) i) (srt10_at hR hi).1
  have hfew := h.few
  generalize at10 (srt10 es) i = q at *
  clear h hx ho hr hlt hR
  generalize es.length = L at *
  generalize hv : decide (off < q.1 + q.2) = v
  go_enter Try.func44, Try.ntmps44
  go_wp2_with fail
  refine wp_region_class w _ (by kernel_rfl) (by kernel_rfl) (Below.refl _ _) hbl (fun hne => ?_)
  repeat (go_big_quiet_step ((go_at_call 31; exact HeldW.call (hE _))))
  refine wpQuiet_nil ?_
  rintro _ ⟨s2, rfl⟩
  clear d0 d1 d2 d3 d4 hne
  go_wp2
  go_ret
  exact ⟨by simp, s2.below⟩

set_option maxRecDepth 100000 in
set_option maxHeartbeats 4000000 in
theorem after_any (B cap g : Nat) (a : Option Addr) (es : List (Int × Int)) (hR : Right10 es) (off : Int) (w : World) (h : Idx10 w B a cap g es) :
    Calls Try.prog 35 #[.pointer (some ⟨B, 0, none⟩), .int .i64 off] w (SearchPost es.length (fun i => decide (off < (at10 (srt10 es) i).1 + (at10 (srt10 es) i).2)) w) := by
  have hpost : Hid (∀ (r : Nat) (W : World), FirstAt es.length (fun i => decide (off < (at10 (srt10 es) i).1 + (at10 (srt10 es) i).2)) r → Below w.heap.size w W → SearchPost es.length (fun i => decide (off < (at10 (srt10 es) i).1 + (at10 (srt10 es) i).2)) w (.returned (.int .i64 r)) W) := Lib.hid fun r W h1 h2 => ⟨r, rfl, h1, h2⟩
  obtain ⟨S, hS⟩ := start2 w (boxX10 (some ⟨B, 0, none⟩)) (boxI10 off)
  have hX := h.below (w' := S.w) (by rw [← hS]; exact ((Below.refl _ w).alloc (Nat.le_refl _) _).alloc (by simp) _)
  have c0 : S.w.cell? ⟨w.heap.size, 0, none⟩ = some (.pointer (some ⟨B, 0, none⟩)) := cell_of (S.blocks (w.heap.size, boxX10 (some ⟨B, 0, none⟩)) (by simp)) 0
  have hl := xlen_any B cap g a es S.w hX
  have hs := search_any 44 #[.pointer (some ⟨w.heap.size, 0, none⟩), .pointer (some ⟨w.heap.size + 1, 0, none⟩)] es.length (fun i => decide (off < (at10 (srt10 es) i).1 + (at10 (srt10 es) i).2)) S.w (enters_of Try.func44 (by kernel_rfl) rfl) (by have := h.few; omega)
    (fun s i hi => afterC_any w.heap.size (w.heap.size + 1) B cap g a es hR off i s.w (hX.below s.below) (heap_below (S.blocks (w.heap.size, boxX10 (some ⟨B, 0, none⟩)) (by simp)) s.below) (heap_below (S.blocks (w.heap.size + 1, boxI10 off) (by simp)) s.below) hi)
    (fun x y hxy hy hp => by
      simp only [decide_eq_true_eq] at hp ⊢
      by_cases e : x = y
      · subst e; exact hp
      · have h1 := (List.pairwise_iff_getElem.1 (srt10_sep hR)) x y (by rw [srt10_length]; omega) (by rw [srt10_length]; omega) (by omega)
        rw [at10_elem (by rw [srt10_length]; omega), at10_elem (by rw [srt10_length]; omega)] at h1
        have h2 := (srt10_at hR hy).2
        omega)
  have HS := Lib.hid hS
  clear h hX hS hR
  generalize es.length = L at *
  generalize (fun i : Nat => decide (off < (at10 (srt10 es) i).1 + (at10 (srt10 es) i).2)) = p at *
  go_enter Try.func35, Try.ntmps35
  go_wp2_with fail
  rw [HS.out]
  go_wp2_with fail
  refine hl.mono ?_
  rintro e w1 ⟨rfl, rfl⟩
  go_wp2_with fail
  refine hs.mono ?_
  rintro e w2 ⟨r, rfl, hF, hb⟩
  have HF := Lib.hid (hpost.out r w2 hF (S.below.trans (hb.mono S.below.size)))
  clear hF hb hl hs c0
  go_wp2
  go_ret
  exact HF.out

set_option maxRecDepth 100000 in
set_option maxHeartbeats 4000000 in
theorem after_nil (off : Int) (w : World) : Calls Try.prog 35 #[.pointer none, .int .i64 off] w (Gives (.int .i64 0) w) := by
  obtain ⟨S, hS⟩ := start2 w (boxX10 none) (boxI10 off)
  have c0 : S.w.cell? ⟨w.heap.size, 0, none⟩ = some (.pointer none) := cell_of (S.blocks (w.heap.size, boxX10 none) (by simp)) 0
  have hl := xlen_nil S.w
  have hs := search_any 44 #[.pointer (some ⟨w.heap.size, 0, none⟩), .pointer (some ⟨w.heap.size + 1, 0, none⟩)] 0 (fun _ => true) S.w (enters_of Try.func44 (by kernel_rfl) rfl) (by omega) (fun s i hi => by omega) (fun x y _ hy _ => rfl)
  have HS := Lib.hid hS
  clear hS
  go_enter Try.func35, Try.ntmps35
  go_wp2_with fail
  rw [HS.out]
  go_wp2_with fail
  refine hl.mono ?_
  rintro e w1 ⟨rfl, rfl⟩
  go_wp2_with fail
  refine hs.mono ?_
  rintro e w2 ⟨r, rfl, hF, hb⟩
  obtain rfl : r = 0 := by have := hF.le; omega
  have HB := Lib.hid (S.below.trans (hb.mono S.below.size))
  clear hF hb hl hs c0
  go_wp2
  go_ret
  exact ⟨rfl, HB.out⟩

/-- The position that Find returns. -/
def findV (es : List (Int × Int)) (off : Int) : Int := match (List.range es.length).find? (fun i => decide ((at10 es i).1 ≤ off ∧ off < (at10 es i).1 + (at10 es i).2)) with
  | some i => i
  | none => -1
theorem findV_is (es : List (Int × Int)) (off : Int) : IsFind10 es off (findV es off) := by
  unfold findV
  cases h : (List.range es.length).find? (fun i => decide ((at10 es i).1 ≤ off ∧ off < (at10 es i).1 + (at10 es i).2)) with
  | none =>
    refine ⟨fun _ i hi => ?_, fun hn => absurd rfl hn⟩
    have := List.find?_eq_none.1 h i (List.mem_range.2 hi)
    simpa using this
  | some i =>
    refine ⟨fun hn => absurd hn (by simp only; omega), fun _ => ⟨i, rfl, ?_⟩⟩
    have h1 := List.find?_some h
    have h2 := List.mem_of_find?_eq_some h
    rw [List.mem_range] at h2
    exact ⟨h2, by simpa using h1⟩
theorem findV_eq {es : List (Int × Int)} (hR : Right10 es) {off r : Int} (h : IsFind10 es off r) : r = findV es off := h.unique hR (findV_is es off)
theorem ord10_mem {es : List (Int × Int)} {k i : Nat} (h : (ord10 es)[k]? = some i) : i < es.length := by
  have := (ord10_perm es).mem_iff.1 (List.mem_of_getElem? h)
  rwa [List.mem_range] at this
theorem ord10_has {es : List (Int × Int)} {i : Nat} (h : i < es.length) : ∃ k : Nat, k < es.length ∧ (ord10 es)[k]? = some i := by
  obtain ⟨k, hk⟩ := List.getElem?_of_mem ((ord10_perm es).mem_iff.2 (List.mem_range.2 h))
  exact ⟨k, by have := (List.getElem?_eq_some_iff.1 hk).1; rwa [ord10_length] at this, hk⟩
theorem srt10_get {es : List (Int × Int)} {k i : Nat} (h : (ord10 es)[k]? = some i) : at10 (srt10 es) k = at10 es i := sel10_at h
theorem srt10_mono {es : List (Int × Int)} (hR : Right10 es) {i j : Nat} (hij : i < j) (hj : j < es.length) : (at10 (srt10 es) i).1 + (at10 (srt10 es) i).2 ≤ (at10 (srt10 es) j).1 := by
  have h1 := (List.pairwise_iff_getElem.1 (srt10_sep hR)) i j (by rw [srt10_length]; omega) (by rw [srt10_length]; omega) (by omega)
  rwa [at10_elem (by rw [srt10_length]; omega), at10_elem (by rw [srt10_length]; omega)] at h1
theorem find_no {es : List (Int × Int)} (hR : Right10 es) {off : Int} {r : Nat} (hF : FirstAt es.length (fun i => decide (off < (at10 (srt10 es) i).1 + (at10 (srt10 es) i).2)) r) (h : r < es.length → off < (at10 (srt10 es) r).1) : findV es off = -1 := by
  refine (findV_eq hR ⟨fun _ i hi hx => ?_, fun hn => absurd rfl hn⟩).symm
  obtain ⟨k, hk, hki⟩ := ord10_has hi
  rw [← srt10_get hki] at hx
  by_cases hkr : k < r
  · have := hF.no k hkr
    simp only [decide_eq_false_iff_not] at this
    omega
  · have h1 := h (by omega)
    by_cases e : k = r
    · subst e; omega
    · have h2 := srt10_mono hR (i := r) (j := k) (by omega) hk
      have h3 := (srt10_at hR (i := r) (by omega)).2
      omega
theorem find_yes {es : List (Int × Int)} (hR : Right10 es) {off : Int} {r i : Nat} (hF : FirstAt es.length (fun i => decide (off < (at10 (srt10 es) i).1 + (at10 (srt10 es) i).2)) r) (hr : r < es.length) (hi : (ord10 es)[r]? = some i) (h : (at10 (srt10 es) r).1 ≤ off) : findV es off = i := by
  have h1 := hF.yes hr
  simp only [decide_eq_true_eq] at h1
  rw [srt10_get hi] at h h1
  exact (findV_eq hR ⟨fun hn => by omega, fun _ => ⟨i, rfl, ord10_mem hi, h, h1⟩⟩).symm

set_option maxRecDepth 100000 in
set_option maxHeartbeats 4000000 in
theorem find10_any (B cap g : Nat) (a : Option Addr) (es : List (Int × Int)) (hR : Right10 es) (off : Int) (w : World) (h : Idx10 w B a cap g es) :
    Calls Try.prog 15 #[.pointer (some ⟨B, 0, none⟩), .int .i64 off] w (Gives (.int .i64 (findV es off)) w) := by
  have ha := after_any B cap g a es hR off w h
  have HX := Lib.hid h
  have HR := Lib.hid hR
  clear h hR
  go_enter Try.func15, Try.ntmps15
  go_wp2_with fail
  refine ha.mono ?_
  rintro e w1 ⟨r, rfl, hF, hb⟩
  have hX := HX.out.below hb
  have HB := Lib.hid hb
  have HF := Lib.hid hF
  have hl := xlen_any B cap g a es w1 hX
  have c0 := hX.c0
  have c1 := hX.c1
  have hle := hF.le
  have hcap := hX.lcap
  have hfew := hX.few
  clear hF hb ha
  by_cases hr : r < es.length
  · obtain ⟨b, o, rfl, hrow⟩ := hX.row (by omega)
    have x0 := (hrow r hr).1
    obtain ⟨i, hi⟩ : ∃ i, (ord10 es)[r]? = some i := ⟨_, List.getElem?_eq_getElem (by rw [ord10_length]; exact hr)⟩
    have p0 := hX.p hi
    have HI := Lib.hid hi
    by_cases ho : (at10 (srt10 es) r).1 ≤ off
    · have HV := Lib.hid (find_yes HR.out HF.out hr hi ho)
      clear hrow hi hX
      generalize (at10 (srt10 es) r).1 = q at *
      generalize es.length = L at *
      have e1 : ((r : Int) == (L : Int)) = false := by simp; omega
      have e2 : decide (off < q) = false := by simp; omega
      go_wp2_with fail
      refine hl.mono ?_
      rintro e w2 ⟨rfl, rfl⟩
      go_wp2
      go_ret
      exact ⟨by rw [HV.out]; rfl, HB.out⟩
    · have HV := Lib.hid (find_no HR.out HF.out (fun _ => by omega))
      clear hrow hi hX
      generalize (at10 (srt10 es) r).1 = q at *
      generalize es.length = L at *
      have e1 : ((r : Int) == (L : Int)) = false := by simp; omega
      have e2 : decide (off < q) = true := by simp; omega
      go_wp2_with fail
      refine hl.mono ?_
      rintro e w2 ⟨rfl, rfl⟩
      go_wp2
      go_ret
      exact ⟨by rw [HV.out]; rfl, HB.out⟩
  · have HV := Lib.hid (find_no HR.out HF.out (fun h => absurd h hr))
    obtain rfl : r = es.length := by omega
    clear hX
    generalize es.length = L at *
    have e1 : ((L : Int) == (L : Int)) = true := by simp
    go_wp2_with fail
    refine hl.mono ?_
    rintro e w2 ⟨rfl, rfl⟩
    go_wp2
    go_ret
    exact ⟨by rw [HV.out]; rfl, HB.out⟩

set_option maxRecDepth 100000 in
set_option maxHeartbeats 4000000 in
theorem find10_nil (off : Int) (w : World) : Calls Try.prog 15 #[.pointer none, .int .i64 off] w (Gives (.int .i64 (-1)) w) := by
  have ha := after_nil off w
  go_enter Try.func15, Try.ntmps15
  go_wp2_with fail
  refine ha.mono ?_
  rintro e w1 ⟨rfl, hb⟩
  have HB := Lib.hid hb
  have hl := xlen_nil w1
  clear hb ha
  go_wp2_with fail
  refine hl.mono ?_
  rintro e w2 ⟨rfl, rfl⟩
  go_wp2
  go_ret
  exact ⟨rfl, HB.out⟩
end Go.Proofs.Ytfomidjhmdmmcaa

/- The order of extents by their beginnings: cmp.Compare, the closure of order, order. -/
namespace Go.Proofs
open Go.Shelf
def Try.sort10_ren : Go.Shelf.Ren := ⟨fun | 6 => 40 | 15 => 48 | 14 => 47 | 28 => 59 | 29 => 60 | 20 => 51 | 21 => 52 | 22 => 53 | 23 => 54 | 24 => 55 | 25 => 56 | 26 => 57 | 27 => 58 | 46 => 61 | 47 => 62 | 48 => 63 | 49 => 64 | 50 => 65 | 57 => 66 | n => n, fun | 22 => 37 | 24 => 3 | 25 => 60 | 3 => 3 | 39 => 68 | 0 => 0 | 53 => 78 | 55 => 80 | 4 => 4 | 46 => 72 | 45 => 71 | 50 => 43 | 5 => 5 | 9 => 9 | 66 => 81 | 70 => 85 | 76 => 87 | 77 => 88 | n => n, fun | n => n⟩
theorem Try.sort10 : Go.Proofs.SlLaysF.n6 Try.prog Try.sort10_ren := {
  mixed := by kernel_rfl
  f6 := ⟨"slices.SortFunc[[]int,int]", by decide, Try.func40.trans (congrArg some (by kernel_rfl))⟩
  f14 := ⟨"slices.pdqsortCmpFunc[int]", by decide, Try.func47.trans (congrArg some (by kernel_rfl))⟩
  f15 := Try.func48.trans (congrArg some (by kernel_rfl))
  f20 := ⟨"slices.insertionSortCmpFunc[int]", by decide, Try.func51.trans (congrArg some (by kernel_rfl))⟩
  f21 := ⟨"slices.heapSortCmpFunc[int]", by decide, Try.func52.trans (congrArg some (by kernel_rfl))⟩
  f22 := ⟨"slices.breakPatternsCmpFunc[int]", by decide, Try.func53.trans (congrArg some (by kernel_rfl))⟩
  f23 := ⟨"slices.choosePivotCmpFunc[int]", by decide, Try.func54.trans (congrArg some (by kernel_rfl))⟩
  f24 := ⟨"slices.reverseRangeCmpFunc[int]", by decide, Try.func55.trans (congrArg some (by kernel_rfl))⟩
  f25 := ⟨"slices.partialInsertionSortCmpFunc[int]", by decide, Try.func56.trans (congrArg some (by kernel_rfl))⟩
  f26 := ⟨"slices.partitionEqualCmpFunc[int]", by decide, Try.func57.trans (congrArg some (by kernel_rfl))⟩
  f27 := ⟨"slices.partitionCmpFunc[int]", by decide, Try.func58.trans (congrArg some (by kernel_rfl))⟩
  f28 := Try.func59.trans (congrArg some (by kernel_rfl))
  f29 := Try.func60.trans (congrArg some (by kernel_rfl))
  f46 := ⟨"slices.siftDownCmpFunc[int]", by decide, Try.func61.trans (congrArg some (by kernel_rfl))⟩
  f47 := Try.func62.trans (congrArg some (by kernel_rfl))
  f48 := Try.func63.trans (congrArg some (by kernel_rfl))
  f49 := ⟨"slices.medianAdjacentCmpFunc[int]", by decide, Try.func64.trans (congrArg some (by kernel_rfl))⟩
  f50 := ⟨"slices.medianCmpFunc[int]", by decide, Try.func65.trans (congrArg some (by kernel_rfl))⟩
  f57 := ⟨"slices.order2CmpFunc[int]", by decide, Try.func66.trans (congrArg some (by kernel_rfl))⟩
  t0 := Try.underlying0
  a0 := Try.isAgg0
  z0 := Try.sizeOf0
  v0 := Try.zeroValue0
  t3 := Try.underlying3
  a3 := Try.isAgg3
  z3 := Try.sizeOf3
  v3 := Try.zeroValue3
  t4 := Try.underlying4
  a4 := Try.isAgg4
  z4 := Try.sizeOf4
  v4 := Try.zeroValue4
  t5 := Try.underlying5
  a5 := Try.isAgg5
  z5 := Try.sizeOf5
  v5 := Try.zeroValue5
  t9 := Try.underlying9
  a9 := Try.isAgg9
  z9 := Try.sizeOf9
  v9 := Try.zeroValue9
  t22 := Try.underlying37
  a22 := Try.isAgg37
  z22 := Try.sizeOf37
  v22 := Try.zeroValue37
  a24 := Try.isAgg3
  z24 := Try.sizeOf3
  t25 := Try.underlying60
  a25 := Try.isAgg60
  z25 := Try.sizeOf60
  v25 := Try.zeroValue60
  t39 := Try.underlying68
  a39 := Try.isAgg68
  z39 := Try.sizeOf68
  v39 := Try.zeroValue68
  t45 := Try.underlying71
  a45 := Try.isAgg71
  z45 := Try.sizeOf71
  v45 := Try.zeroValue71
  t46 := Try.underlying72
  a46 := Try.isAgg72
  z46 := Try.sizeOf72
  v46 := Try.zeroValue72
  t50 := Try.underlying43
  a50 := Try.isAgg43
  z50 := Try.sizeOf43
  v50 := Try.zeroValue43
  t53 := Try.underlying78
  a53 := Try.isAgg78
  z53 := Try.sizeOf78
  v53 := Try.zeroValue78
  t55 := Try.underlying80
  a55 := Try.isAgg80
  z55 := Try.sizeOf80
  v55 := Try.zeroValue80
  t66 := Try.underlying81
  a66 := Try.isAgg81
  z66 := Try.sizeOf81
  v66 := Try.zeroValue81
  t70 := Try.underlying85
  a70 := Try.isAgg85
  z70 := Try.sizeOf85
  v70 := Try.zeroValue85
  t76 := Try.underlying87
  a76 := Try.isAgg87
  z76 := Try.sizeOf87
  v76 := Try.zeroValue87
  t77 := Try.underlying88
  a77 := Try.isAgg88
  z77 := Try.sizeOf88
  v77 := Try.zeroValue88 }
end Go.Proofs
namespace Go.Proofs.Ytfomidjhmdmmcaa
open Go.RowKit Go.Shelf Go.Lib Go.Sort Go.Proofs.Ytfomidjhmdmmcaa.Plain01
set_option linter.unusedVariables false
set_option linter.unusedSimpArgs false

def cmp10 (a b : Int) : Int := if a < b then -1 else if b < a then 1 else 0
theorem cmp10_lt (a b : Int) : decide (cmp10 a b < 0) = decide (a < b) := by
  unfold cmp10
  split
  · simp [*]
  · split <;> simp [*]
theorem isnan10_any (x : Int) (w : World) : Calls Try.prog 49 #[.int .i64 x] w fun e w' => e = .returned (.bool false) ∧ w' = w := by
  go_enter Try.func49, Try.ntmps49
  go_wp2
  go_ret
  exact ⟨by simp, rfl⟩
theorem compare10_any (x y : Int) (w : World) : Calls Try.prog 42 #[.int .i64 x, .int .i64 y] w fun e w' => e = .returned (.int .i64 (cmp10 x y)) ∧ w' = w := by
  have h1 := isnan10_any x w
  have h2 := isnan10_any y w
  unfold cmp10
  by_cases c1 : x < y
  · rw [if_pos c1]
    go_enter Try.func42, Try.ntmps42
    go_wp2_with fail
    refine h1.mono ?_
    rintro e _ ⟨rfl, rfl⟩
    go_wp2_with fail
    refine h2.mono ?_
    rintro e _ ⟨rfl, rfl⟩
    go_wp2
    go_ret
    exact ⟨rfl, rfl⟩
  · rw [if_neg c1]
    by_cases c2 : y < x
    · rw [if_pos c2]
      go_enter Try.func42, Try.ntmps42
      go_wp2_with fail
      refine h1.mono ?_
      rintro e _ ⟨rfl, rfl⟩
      go_wp2_with fail
      refine h2.mono ?_
      rintro e _ ⟨rfl, rfl⟩
      go_wp2
      go_ret
      exact ⟨rfl, rfl⟩
    · rw [if_neg c2]
      go_enter Try.func42, Try.ntmps42
      go_wp2_with fail
      refine h1.mono ?_
      rintro e _ ⟨rfl, rfl⟩
      go_wp2_with fail
      refine h2.mono ?_
      rintro e _ ⟨rfl, rfl⟩
      go_wp2
      go_ret
      exact ⟨rfl, rfl⟩

abbrev boxE10 (a : Option Addr) (n cap : Nat) : Obj := .cells #[.slice a n cap] 22 (0, 0)
set_option maxRecDepth 100000 in
set_option maxHeartbeats 4000000 in
theorem orderC10_any (B b o n cap i j : Nat) (f : Nat → Int × Int) (w : World) (hB : w.cell? ⟨B, 0, none⟩ = some (.slice (some ⟨b, o, none⟩) n cap)) (h : ExtRow w b o n f) (hi : i < n) (hj : j < n) (hn : n ≤ 1000000) :
    Calls Try.prog 41 #[.int .i64 i, .int .i64 j, .pointer (some ⟨B, 0, none⟩)] w (fun e w' => e = .returned (.int .i64 (cmp10 (f i).1 (f j).1)) ∧ ∃ nq, w' = w.drewN nq) := by
  have x0 := (h i hi).1
  have x1 := (h j hj).1
  have hcmp := fun W => compare10_any (f i).1 (f j).1 W
  generalize cmp10 (f i).1 (f j).1 = r at *
  clear h
  go_enter Try.func41, Try.ntmps41
  go_wp2
  go_quiet ((go_at_call 42; exact Calls.quiet_of_same (hcmp _)))
  go_wp2
  go_ret
  exact ⟨rfl, _, rfl⟩

/-- A row of ints. -/
abbrev rowI10 (d : Array Int) : Obj := .cells (d.map (Value.int .i64)) 3 (0, 0)
theorem made_zeroI10 (k : Nat) : madeCells (Value.int .i64 0).cells (k * 1) = (Array.replicate k (0 : Int)).map (Value.int .i64) := by
  apply Array.ext_getElem?
  intro i
  unfold madeCells
  rw [Nat.mul_one]
  by_cases h : i < k
  · simp [h, Value.cells, Nat.mod_one]
  · simp [h]
theorem make_ints10 (k : Nat) (hk : k ≤ 1000000) (w : World) : (Instr.makeSlice 37 (.int .i64 (k : Int)) (.int .i64 (k : Int))).run Try.prog w = .ok (.slice (some ⟨w.heap.size, 0, none⟩) k k) (w.alloc (rowI10 (Array.replicate k 0))) := by
  have hi : ∃ i, Try.prog.info? 3 = some i ∧ i.zero = some (.int .i64 0) ∧ i.size = 1 ∧ i.bytes = 8 := by
    have h : (Try.prog.info? 3).map (fun i => (i.zero, i.size, i.bytes)) = some (some (.int .i64 0), 1, 8) := by kernel_rfl
    obtain ⟨i, hi, he⟩ := Option.map_eq_some_iff.1 h
    simp only [Prod.mk.injEq] at he
    exact ⟨i, hi, he.1, he.2.1, he.2.2⟩
  obtain ⟨i, hi, hz, hs, hb⟩ := hi
  rw [run_make w 37 3 i _ Try.underlying37 hi hz .i64 .i64 k k (by omega) (by omega) (by rw [hb]; omega) (by omega)]
  rw [hs, Int.toNat_natCast, made_zeroI10]
theorem filled10 {L : Nat} {dk : Array Int} (hs : dk.size = L) (h : ∀ i, i < L → dk[i]! = (i : Int)) : rowI10 dk = rowP10 (List.range L) := by
  have e : dk.map (Value.int .i64) = ((List.range L).map fun i : Nat => Value.int .i64 i).toArray := by
    apply Array.ext_getElem?
    intro i
    by_cases hi : i < L
    · have h1 := h i hi
      rw [getElem!_pos dk i (by omega)] at h1
      rw [Array.getElem?_map, Array.getElem?_eq_getElem (by omega), h1]
      simp [hi]
    · rw [Array.getElem?_eq_none (by simp; omega), Array.getElem?_eq_none (by simp; omega)]
  unfold rowI10 rowP10
  rw [e]

/-- The worlds of the sort. -/
theorem sortW_other {α : Type} [Inhabited α] {enc : α → Value} {w : World} {g off n : Nat} {d : Array α} {os : Array Obj} {k : Nat} (hk : k ≠ g) (hl : k < w.heap.size) : (sortWorld enc w g off n d os).heap[k]? = w.heap[k]? := by
  have hgk : ¬ g = k := fun h => hk h.symm
  unfold sortWorld grow putRow mapBlock
  rw [Array.getElem?_append_left (by simpa [Sort.ahead] using hl), Array.getElem?_modify, if_neg hgk]
  rfl
theorem sortW_row {α : Type} [Inhabited α] {enc : α → Value} {w : World} {g off n : Nat} {d : Array α} {os : Array Obj} {c : Array Value} {t : TypeId} {fr : Nat × Nat} (h : w.heap[g]? = some (.cells c t fr)) : (sortWorld enc w g off n d os).heap[g]? = some (.cells (putCells enc off d c) t fr) := by
  have hl := (Array.getElem?_eq_some_iff.1 h).1
  unfold sortWorld grow putRow mapBlock
  rw [Array.getElem?_append_left (by simpa [Sort.ahead] using hl), Array.getElem?_modify, if_pos rfl, show (Sort.ahead w n).heap[g]? = w.heap[g]? from rfl, h]
  rfl
theorem sortW_below {α : Type} [Inhabited α] {enc : α → Value} {w : World} {g off n B : Nat} {d : Array α} {os : Array Obj} (hB : B ≤ g) (hl : B ≤ w.heap.size) : Below B w (sortWorld enc w g off n d os) :=
  ⟨rfl, rfl, rfl, by unfold sortWorld; rw [size_grow, size_putRow]; show w.heap.size ≤ w.heap.size + _; omega, fun k hk => sortW_other (by omega) (by omega)⟩

def Order10 (es : List (Int × Int)) (idx : List Nat) : Prop := idx.Perm (List.range es.length) ∧ idx.Pairwise fun i j => (at10 es i).1 ≤ (at10 es j).1
def OrderPost10 (es : List (Int × Int)) (w : World) (e : Ending) (w' : World) : Prop :=
  ∃ (g : Nat) (idx : List Nat), e = .returned (.slice (some ⟨g, 0, none⟩) es.length es.length) ∧ w.heap.size ≤ g ∧ w'.heap[g]? = some (rowP10 idx) ∧ Below w.heap.size w w' ∧ Order10 es idx

set_option maxHeartbeats 2000000 in
theorem insNone10 (p : Option Addr) (cap : Nat) (fv : Value) (w : World) : Calls Try.prog 51 #[.slice p 0 cap, .int .i64 0, .int .i64 0, fv] w fun e w' => e = .returned (.tuple #[]) ∧ w' = w := by
  go_enter Try.func51, Try.ntmps51
  go_wp2
  refine wp_loop_rounds 1 ?_
  rw [rounds_succ]
  go_wp2
  go_end0
  exact ⟨rfl, rfl⟩
set_option maxHeartbeats 2000000 in
theorem pdqNone10 (p : Option Addr) (cap : Nat) (lim : Int) (fv : Value) (w : World) : Calls Try.prog 47 #[.slice p 0 cap, .int .i64 0, .int .i64 0, .int .i64 lim, fv] w fun e w' => e = .returned (.tuple #[]) ∧ w' = w := by
  have hi := fun W => insNone10 p cap fv W
  go_enter Try.func47, Try.ntmps47
  go_wp2
  refine wp_loop_rounds 1 ?_
  rw [rounds_succ]
  go_wp2_with (go_at_call 51; refine (hi _).mono ?_; rintro e w' ⟨rfl, rfl⟩)
  (try simp only [Exit.inBlock, Exit.then]); refine bodyPost_ret (results_none rfl _ _ _) rfl ?_
  exact ⟨rfl, rfl⟩
set_option maxHeartbeats 2000000 in
theorem sortNone10 (p : Option Addr) (cap : Nat) (fv : Value) (w : World) : Calls Try.prog 40 #[.slice p 0 cap, fv] w fun e w' => e = .returned (.tuple #[]) ∧ w' = w := by
  have hp := fun lim W => pdqNone10 p cap lim fv W
  have hl : ∀ W, Calls Try.prog 48 #[.int .u64 0] W fun e w' => e = .returned (.int .i64 (Lib.bitLen 0 : Nat)) ∧ w' = W := fun W =>
    Any.bits_Len (SlLaysF0.n15.bits (P := Try.prog) (ρ := Try.sort10_ren) { Try.sort10 with }) 0 W (by omega) (by omega)
  go_enter Try.func40, Try.ntmps40
  go_wp2_with (first | (go_at_call 48; refine (hl _).mono ?_; rintro e w' ⟨rfl, rfl⟩) | (go_at_call 47; refine (hp _ _).mono ?_; rintro e w' ⟨rfl, rfl⟩))
  go_end0
  exact ⟨rfl, rfl⟩
/-- slices.SortFunc over positions, with the closure of order. -/
theorem sort10_any (g B b o n cap : Nat) (es : List (Int × Int)) (w : World) (hn : n = es.length) (h0 : 0 < n) (hN : n ≤ 1000000) (hg : w.heap[g]? = some (rowP10 (List.range n))) (hB : w.heap[B]? = some (boxE10 (some ⟨b, o, none⟩) n cap)) (hBg : B ≠ g) (hbg : b ≠ g) (hE : ExtRow w b o n (at10 es)) :
    Calls Try.prog 40 #[.slice (some ⟨g, 0, none⟩) n n, .func (.func 41) #[] #[.pointer (some ⟨B, 0, none⟩)]] w fun e w' => e = .returned (.tuple #[]) ∧ ∃ idx : List Nat, Order10 es idx ∧ w'.heap[g]? = some (rowP10 idx) ∧ ∀ B', B' ≤ g → B' ≤ w.heap.size → Below B' w w' := by
  have hlb := (Array.getElem?_eq_some_iff.1 hB).1
  have hlg := (Array.getElem?_eq_some_iff.1 hg).1
  have hlt : b < w.heap.size := hE.lt h0
  letI : Inhabited (Fin n) := ⟨⟨0, h0⟩⟩
  have hd : ∀ j (hj : j < n), (Array.ofFn (n := n) id)[j]! = ⟨j, hj⟩ := fun j hj => by rw [getElem!_pos _ j (by simpa using hj)]; simp
  have hO : SWO (ltOf fun x y : Fin n => cmp10 (at10 es x).1 (at10 es y).1) := by
    have e : ∀ x y : Fin n, ltOf (fun x y : Fin n => cmp10 (at10 es x).1 (at10 es y).1) x y = decide ((at10 es x).1 < (at10 es y).1) := fun x y => by unfold ltOf; exact cmp10_lt _ _
    exact ⟨fun x => by rw [e]; simp, fun x y z h1 h2 => by rw [e] at *; simp at *; omega, fun x y z h1 h2 => by rw [e] at *; simp at *; omega⟩
  have hcmp : CmpReads Try.prog 41 #[.pointer (some ⟨B, 0, none⟩)] (fun x : Fin n => Value.int .i64 (x.val : Int)) (fun x y : Fin n => cmp10 (at10 es x).1 (at10 es y).1) g 0 n w := fun m os dk hs x y => by
    refine orderC10_any B b o n cap x.val y.val (at10 es) _ ?_ (fun i hi => ?_) x.isLt y.isLt hN
    · exact cell_of (sortW_other hBg hlb |>.trans hB) 0
    · have hb := sortW_other (enc := fun x : Fin n => Value.int .i64 (x.val : Int)) (off := 0) (n := m) (d := dk) (os := os) hbg hlt
      exact ⟨(World.cell?_of_block hb).trans (hE i hi).1, (World.cell?_of_block hb).trans (hE i hi).2⟩
  have hH : Holds (fun x : Fin n => Value.int .i64 (x.val : Int)) w g 0 (Array.ofFn (n := n) id) := fun j hj => by
    have hj' : j < n := by simpa using hj
    refine ⟨?_, free_of hg _⟩
    rw [cell_of hg, hd j hj', Nat.zero_add]
    simp [hj']
  have eg : ∀ args w, (callFunc 41 args).run Try.prog w = .ok (.enter 41 args) w := enters_of Try.func41 (by kernel_rfl) rfl
  have hcon := Any.slices_SortFunc Try.sort10 (fun x : Fin n => Value.int .i64 (x.val : Int)) (fun _ => rfl) _ hO 41 #[.pointer (some ⟨B, 0, none⟩)] g 0 n (Array.ofFn (n := n) id) w eg (by have := hcmp.lays; simpa using this) hH hlg (by simp; omega)
  rw [Array.size_ofFn] at hcon
  refine hcon.mono ?_
  rintro e w' ⟨he, d', q, os, hp, hs, rfl⟩
  have hsz : d'.size = n := by rw [hp.1]; simp
  refine ⟨he, d'.toList.map Fin.val, ⟨?_, ?_⟩, ?_, fun B' h1 h2 => sortW_below h1 h2⟩
  · have h1 : d'.toList.Perm (Array.ofFn (n := n) id).toList := by
      have := hp.2.2
      rw [show d'.extract 0 n = d' by (have e1 : d'.extract 0 d'.size = d' := by simp); rwa [hsz] at e1, show (Array.ofFn (n := n) (id : Fin n → Fin n)).extract 0 n = Array.ofFn (n := n) id by simp] at this
      exact this
    have h2 := h1.map Fin.val
    have h3 : (Array.ofFn (n := n) (id : Fin n → Fin n)).toList.map Fin.val = List.range es.length := by
      apply List.ext_getElem
      · simp [hn]
      · intro i h3 h4
        simp
    rwa [h3] at h2
  · rw [List.pairwise_map, List.pairwise_iff_getElem]
    intro i j hi hj hij
    have hi' : i < n := by rw [← hsz]; simpa using hi
    have hj' : j < n := by rw [← hsz]; simpa using hj
    have := hs i j (Nat.zero_le _) hij hj'
    unfold ltOf at this
    rw [cmp10_lt] at this
    simp only [decide_eq_false_iff_not] at this
    rw [getElem!_pos d' i (by omega), getElem!_pos d' j (by omega)] at this
    simp only [Array.getElem_toList]
    omega
  · rw [sortW_row hg]
    congr 2
    apply Array.ext_getElem?
    intro k
    unfold putCells
    by_cases hk : k < n
    · rw [Array.getElem?_mapIdx]
      simp [hk, hsz, getElem!_pos d' k (by omega)]
    · rw [Array.getElem?_eq_none (by simp; omega), Array.getElem?_eq_none (by simp; omega)]

set_option maxRecDepth 100000 in
set_option maxHeartbeats 4000000 in
theorem order10_any (a : Option Addr) (es : List (Int × Int)) (cap : Nat) (w : World) (h : ExtSlice w a es.length (at10 es)) (hL : es.length ≤ 1000000) : Calls Try.prog 29 #[.slice a es.length cap] w (OrderPost10 es w) := by
  have hpost : Hid (∀ e w', (∃ (g : Nat) (idx : List Nat), e = .returned (.slice (some ⟨g, 0, none⟩) es.length es.length) ∧ w.heap.size ≤ g ∧ w'.heap[g]? = some (rowP10 idx) ∧ Below w.heap.size w w' ∧ Order10 es idx) → OrderPost10 es w e w') := Lib.hid fun _ _ h => h
  have HC := Lib.hid h
  obtain ⟨L, hLe⟩ : ∃ L, L = es.length := ⟨_, rfl⟩
  have HL := Lib.hid hLe
  have hmk := fun w => make_ints10 L (by omega) w
  rw [← hLe] at hL hpost ⊢
  clear h hLe
  go_enter Try.func29, Try.ntmps29
  go_wp2
  obtain ⟨s, hs⟩ : ∃ s : HeldW w [(w.heap.size + 1, rowI10 (Array.replicate L 0)), (w.heap.size, boxE10 a L cap)], (w.alloc (boxE10 a L cap)).alloc (rowI10 (Array.replicate L 0)) = s.w := start2 w _ _
  rw [hs]
  clear hs hmk
  go_loopw [10] (fun v wr => ∃ k : Nat, k ≤ L ∧ v = .int .i64 k ∧ ∃ dk : Array Int, dk.size = L ∧ Hid (∀ i, i < k → dk[i]! = (i : Int)) ∧ ∃ s : HeldW w [(w.heap.size + 1, rowI10 dk), (w.heap.size, boxE10 a L cap)], wr = s.w) (fun v _ => L - (intOf v).toNat)
  case atStart => exact ⟨0, by omega, rfl, _, by simp, Lib.hid (fun i hi => by omega), s, rfl⟩
  case round =>
    clear s
    obtain ⟨k, hk, rfl, dk, hsz, hf, s, rfl⟩ := hrel
    by_cases hlt : k < L
    · obtain ⟨u, c1⟩ : ∃ u, s.w.cell? ⟨w.heap.size + 1, k, none⟩ = some u := ⟨.int .i64 dk[k]!, by rw [cell_of (s.blocks (w.heap.size + 1, rowI10 dk) List.mem_cons_self)]; simp [getElem!_pos dk k (by omega), show k < dk.size by omega]⟩
      have f1 : s.w.frozen? ⟨w.heap.size + 1, k, none⟩ = false := free_of (s.blocks (w.heap.size + 1, rowI10 dk) List.mem_cons_self) k
      have hstep : Hid (∀ i, i < k + 1 → (dk.setIfInBounds k (k : Int))[i]! = (i : Int)) := Lib.hid fun i hi => by
        rw [getElem!_pos _ i (by simp; omega), Array.getElem_setIfInBounds (by omega)]
        by_cases e : k = i
        · subst e; simp
        · rw [if_neg e]
          have := hf.out i (by omega)
          rwa [getElem!_pos dk i (by omega)] at this
      have hsz2 : (dk.setIfInBounds k (k : Int)).size = L := by simp [hsz]
      have HS : Hid (∃ s' : HeldW w [(w.heap.size + 1, rowI10 (dk.setIfInBounds k (k : Int))), (w.heap.size, boxE10 a L cap)], s.w.setCell ⟨w.heap.size + 1, k, none⟩ (.int .i64 k) = s'.w) := Lib.hid ⟨HeldW.store (i := k) (v := .int .i64 k) s (by omega) (by simp) (by simp), rfl⟩
      go_wp2
      obtain ⟨s', hs'⟩ := HS.out
      rw [hs']
      go_roundw
      case rel => exact ⟨k + 1, by omega, by go_num, _, hsz2, hstep, s', rfl⟩
      case measure => simp [intOf]; omega
    · obtain rfl : k = L := by omega
      have hrow : s.w.heap[w.heap.size + 1]? = some (rowP10 (List.range k)) := by rw [← filled10 hsz hf.out]; exact s.blocks _ List.mem_cons_self
      have hbox : s.w.heap[w.heap.size]? = some (boxE10 a k cap) := s.blocks (w.heap.size, boxE10 a k cap) (by simp)
      have hcall : Calls Try.prog 40 #[.slice (some ⟨w.heap.size + 1, 0, none⟩) k k, .func (.func 41) #[] #[.pointer (some ⟨w.heap.size, 0, none⟩)]] s.w fun e w' => e = .returned (.tuple #[]) ∧ ∃ idx : List Nat, Order10 es idx ∧ w'.heap[w.heap.size + 1]? = some (rowP10 idx) ∧ ∀ B', B' ≤ w.heap.size + 1 → B' ≤ s.w.heap.size → Below B' s.w w' := by
        by_cases h0 : 0 < k
        · obtain ⟨b, o, rfl, hr⟩ := HC.out (by rw [← HL.out]; exact h0)
          have hlt0 := hr.lt (by rw [← HL.out]; exact h0)
          rw [← HL.out] at hr
          exact sort10_any (w.heap.size + 1) w.heap.size b o k cap es s.w HL.out h0 (by omega) hrow hbox (by omega) (by omega) (hr.below s.below hlt0)
        · obtain rfl : k = 0 := by omega
          refine (sortNone10 _ _ _ _).mono ?_
          rintro e w' ⟨he, rfl⟩
          exact ⟨he, [], ⟨by rw [← HL.out]; exact List.Perm.nil, List.Pairwise.nil⟩, hrow, fun B' _ _ => Below.refl _ _⟩
      clear hf hrow hbox hlt
      go_wp2_with fail
      refine hcall.mono ?_
      rintro e w' ⟨rfl, idx, hO, hg, hb⟩
      have HB := Lib.hid (s.below.trans (hb w.heap.size (by omega) s.below.size))
      have HO := Lib.hid hO
      have HG := Lib.hid hg
      clear hcall hO hg hb
      go_wp2
      go_ret
      exact hpost.out _ _ ⟨_, idx, rfl, by omega, HG.out, HB.out, HO.out⟩
end Go.Proofs.Ytfomidjhmdmmcaa
