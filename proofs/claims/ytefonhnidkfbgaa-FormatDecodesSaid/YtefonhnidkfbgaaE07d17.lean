/- Package format: Encode. -/
import Derived.Test.YtefonhnidkfbgaaE07d16
import Derived.Test.YtefonhnidkfbgaaE07d8
import Derived.Test.YtefonhnidkfbgaaE07d14
namespace Go.Proofs.Ytefonhnidkfbgaa
open Go.RowKit Go.Shelf Go.Proofs.Ytefonhnidkfbgaa.Plain01
set_option linter.unusedVariables false
set_option linter.unusedSimpArgs false

/-- Blocks of cells go on to hold what they held; a mark may come. -/
structure ExtC (W W' : World) : Prop where
  size : W.heap.size ≤ W'.heap.size
  cells : ∀ (k : Nat) (cs : Array Value) (e : TypeId) (fr : Nat × Nat), W.heap[k]? = some (Obj.cells cs e fr) → ∃ fr' : Nat × Nat, W'.heap[k]? = some (Obj.cells cs e fr')
theorem ExtC.refl (W : World) : ExtC W W := ⟨Nat.le_refl _, fun k cs e fr h => ⟨fr, h⟩⟩
theorem ExtC.of_below {W W' : World} (h : Below W.heap.size W W') : ExtC W W' := ⟨h.size, fun k cs e fr hk => ⟨fr, (h.block k (Array.getElem?_eq_some_iff.1 hk).1).trans hk⟩⟩
theorem ExtC.cell {W W' : World} (h : ExtC W W') {p : Addr} {v : Value} (hc : W.cell? p = some v) : W'.cell? p = some v := by
  unfold World.cell? at hc ⊢
  cases ho : W.heap[p.block]? with
  | none => rw [ho] at hc; cases hc
  | some o =>
    rw [ho] at hc
    cases o with
    | cells cs e fr =>
      obtain ⟨fr', h'⟩ := h.cells _ _ _ _ ho
      rw [h']
      exact hc
    | _ => cases hc
theorem ExtC.freeze (W : World) (a : Addr) (n : Nat) : ExtC W (W.freeze a n) := by
  unfold World.freeze
  split
  · exact ExtC.refl W
  · refine ⟨by simp, fun k cs e fr h => ?_⟩
    simp only [Array.getElem?_modify]
    by_cases hk : a.block = k
    · rw [if_pos hk, h]
      exact ⟨_, rfl⟩
    · rw [if_neg hk]
      exact ⟨fr, h⟩
theorem below_freeze {B : Nat} {W0 W : World} (h : Below B W0 W) (a : Addr) (n : Nat) (ha : B ≤ a.block) : Below B W0 (W.freeze a n) := by
  unfold World.freeze
  split
  · exact h
  · refine ⟨h.os, h.tape, h.output, by simpa using h.size, fun k hk => ?_⟩
    simp only [Array.getElem?_modify]
    rw [if_neg (by omega)]
    exact h.block k hk

/-- A slice that holds these bytes; these fields; a new row of constants. -/
def IsBy (l : List Int) : Value → World → Prop := fun v w => ∃ A C, v = .slice A l.length C ∧ BytesIn w A l C
def IsFl (fs : List (Int × Int)) : Value → World → Prop := fun v w => ∃ A, v = .slice A fs.length fs.length ∧ FieldsIn w A fs fs.length
def IsLit (base : Nat) (cs : Array Value) (n : Nat) : Value → World → Prop := fun v w => ∃ B, v = .slice (some ⟨B, 0, none⟩) n n ∧ base ≤ B ∧ ∃ fr, w.heap[B]? = some (.cells cs 5 fr)
theorem bytes_ext {W W' : World} (h : ExtC W W') {a : Option Addr} {l : List Int} {cap : Nat} (hb : BytesIn W a l cap) : BytesIn W' a l cap :=
  ⟨hb.len, hb.capb, fun hp => by
    obtain ⟨b, o, he, hc⟩ := hb.cells hp
    exact ⟨b, o, he, fun i hi => h.cell (hc i hi)⟩, hb.nil⟩
theorem fields_ext {W W' : World} (h : ExtC W W') {a : Option Addr} {fs : List (Int × Int)} {cap : Nat} (hb : FieldsIn W a fs cap) : FieldsIn W' a fs cap :=
  ⟨hb.len, hb.capb, fun hp => by
    obtain ⟨b, o, he, hc⟩ := hb.cells hp
    exact ⟨b, o, he, fun i f hi => ⟨h.cell (hc i f hi).1, h.cell (hc i f hi).2⟩⟩, hb.ok⟩
theorem stableX_by (l : List Int) : Stable ExtC (IsBy l) := fun v w w' ⟨A, C, h1, h2⟩ hE => ⟨A, C, h1, bytes_ext hE h2⟩
theorem stableX_fl (fs : List (Int × Int)) : Stable ExtC (IsFl fs) := fun v w w' ⟨A, h1, h2⟩ hE => ⟨A, h1, fields_ext hE h2⟩
theorem stableX_lit (base : Nat) (cs : Array Value) (n : Nat) : Stable ExtC (IsLit base cs n) := fun v w w' ⟨B, h1, h2, fr, h3⟩ hE => ⟨B, h1, h2, hE.cells _ _ _ _ h3⟩
theorem bytes_lit {w : World} {B : Nat} {l : List Int} {fr : Nat × Nat} (h : w.heap[B]? = some (.cells (byteA l) 5 fr)) (hl : l.length ≤ 1000) : BytesIn w (some ⟨B, 0, none⟩) l l.length :=
  ⟨Nat.le_refl _, by omega, fun _ => ⟨B, 0, rfl, fun i hi => by rw [Nat.zero_add, cell_of_row _ _ _ _ _ _ h]; exact byteA_get l hi⟩, fun h => by cases h⟩

/-- A constant string as bytes. -/
theorem convert_lit {W : World} {B n : Nat} {cs : Array Value} {fr : Nat × Nat} (h : W.heap[B]? = some (.cells cs 5 fr)) : (convert 22 22 (.slice (some ⟨B, 0, none⟩) n n)).run Try.prog W = .ok (.slice (some ⟨B, 0, none⟩) n n) (W.freeze ⟨B, cs.size, none⟩ 1) := by
  have hsh : W.shape? B = some (5, cs.size) := by unfold World.shape?; rw [h]
  simp [convert, run_underlying Try.underlying22, run_underlying Try.underlying5, markStringish, hsh]

/-- The bytes of a delta's digests, as slices. -/
theorem delta_bytes {D : Array Value} {o n : Int} {x y : List Int} {s : Value} (h : DeltaOf D o n x y s) {w : World} {g : Nat} {fr : Nat × Nat} (hb : w.heap[g]? = some (.cells D 27 fr)) : BytesIn w (some ⟨g, 2, none⟩) x 32 ∧ BytesIn w (some ⟨g, 34, none⟩) y 32 := by
  have hx := h.xl
  have hy := h.yl
  refine ⟨⟨by omega, by omega, fun _ => ⟨g, 2, rfl, fun i hi => ?_⟩, fun h => by cases h⟩, ⟨by omega, by omega, fun _ => ⟨g, 34, rfl, fun i hi => ?_⟩, fun h => by cases h⟩⟩
  · rw [cell_of_row _ _ _ _ _ _ hb, h.eq]
    simp only [deltaA, List.getElem?_toArray]
    unfold deltaL
    rw [show 2 + i = i + 1 + 1 by omega, List.getElem?_cons_succ, List.getElem?_cons_succ, List.getElem?_append_left (by simpa using hi), List.getElem?_map, List.getElem?_eq_getElem hi]
    rfl
  · rw [cell_of_row _ _ _ _ _ _ hb, h.eq]
    simp only [deltaA, List.getElem?_toArray]
    unfold deltaL
    rw [show 34 + i = 32 + i + 1 + 1 by omega, List.getElem?_cons_succ, List.getElem?_cons_succ, List.getElem?_append_right (by simp [hx]), List.length_map, hx, show 32 + i - 32 = i by omega, List.getElem?_append_left (by simpa using hi), List.getElem?_map, List.getElem?_eq_getElem hi]
    rfl
theorem slice_arr (g i : Nat) (w : World) : (Instr.sliceAt 24 (.pointer (some ⟨g, i, none⟩)) none none none).run Try.prog w = .ok (.slice (some ⟨g, i, none⟩) 32 32) w := by
  have hs : (sizeOf 5).run Try.prog w = .ok 1 w := by kernel_rfl
  simp [Instr.sliceAt, Instr.sureAddr, run_underlying Try.underlying24, Instr.sliceBounds, hs]
  rfl

theorem isLit_new {base : Nat} (W : World) (cs : Array Value) (n : Nat) (hb : base ≤ W.heap.size) : IsLit base cs n (.slice (some ⟨W.heap.size, 0, none⟩) n n) (W.alloc (.cells cs 5)) := ⟨W.heap.size, rfl, hb, (0, 0), heap_new W _ rfl⟩
theorem isFl_new (W : World) (fs : List (Int × Int)) (cs : Array Value) (hcs : cs = (fs.flatMap fun f => [Value.int .u64 f.1, Value.int .i64 f.2]).toArray) (hl : fs.length ≤ 1000) (hok : ∀ f ∈ fs, (0 ≤ f.1 ∧ f.1 < 18446744073709551616) ∧ (-9223372036854775808 ≤ f.2 ∧ f.2 ≤ 9223372036854775807)) : IsFl fs (.slice (some ⟨W.heap.size, 0, none⟩) fs.length fs.length) (W.alloc (.cells cs 64)) :=
  ⟨_, rfl, fields_row (heap_new W _ rfl) fs hcs hl hok⟩

/-- What Encode hands back. -/
def EncPost (R : Int) (B : List Int) (w : World) (e : Ending) (w' : World) : Prop :=
  if R = 0 then ∃ A C, e = .returned (.tuple #[.slice A B.length C, .int .i64 0]) ∧ Below w.heap.size w w' ∧ BytesIn w' A B C ∧ (∀ ad, A = some ad → w.heap.size ≤ ad.block)
  else e = .returned (.tuple #[.slice none 0 0, .int .i64 R]) ∧ Below w.heap.size w w'

theorem encs_head (o n : Int) (x y : List Int) (N : Nat) : [71, 82, 70, 84] ++ (encs [(1, 1), (o, 8), (n, 8)] ++ (x ++ (y ++ encs [((N : Int), 4)]))) = encH o n x y N := by
  have e1 : enc1 1 1 = [1] := by decide +kernel
  have t1 : (1 : Int).toNat = 1 := rfl
  have t8 : (8 : Int).toNat = 8 := rfl
  have t4 : (4 : Int).toNat = 4 := rfl
  unfold encH encs
  simp only [List.flatMap_cons, List.flatMap_nil, List.append_nil, List.append_assoc, t1, t8, t4, e1]
/-- What the loop of Encode keeps. -/
structure EncLoop (w0 : World) (v : Value) (l : List Int) (m : Nat) (wr : World) where
  els : List Sl7
  S : Grow w0 none [] els 22 1 v m (els.map slV)
  eq : wr = S.w
  flat : (els.map fun p => p.2.1).flatten = l
  len : els.length = m
theorem parts_of {w0 : World} {v : Value} {els : List Sl7} {m : Nat} (S : Grow w0 none [] els 22 1 v m (els.map slV)) (hm : els.length = m) : ∃ (a : Option Addr) (cap : Nat), v = .slice a (els.map fun p => p.2.1).length cap ∧ PartsIn S.w a (els.map fun p => p.2.1) := by
  subst hm
  have hp : ∀ (i : Nat) (p : Sl7), els[i]? = some p → partOf (els.map fun p => p.2.1) i = p.2.1 := fun i p hi => by unfold partOf; rw [List.getElem?_map, hi]; rfl
  rcases S.own.2 with ⟨rfl, h0⟩ | ⟨g, cap, cur, rfl, hg, hb, hc, hm, hs, ht⟩
  · refine ⟨none, 0, by rw [List.length_map, h0], ⟨by rw [List.length_map]; omega, fun hp => by rw [List.length_map] at hp; omega⟩⟩
  · refine ⟨_, cap, by rw [List.length_map], ⟨by rw [List.length_map]; unfold maxLen at hm; omega, fun _ => ⟨g, 0, rfl, fun i hi => ?_⟩⟩⟩
    rw [List.length_map] at hi
    obtain ⟨p, hpi⟩ : ∃ p, els[i]? = some p := ⟨_, List.getElem?_eq_getElem hi⟩
    rw [hp i p hpi]
    refine ⟨p.1, p.2.2, ?_, (S.el p (List.mem_of_getElem? hpi)).1⟩
    have := S.own.cells (g := g) rfl i (slV p) (by rw [List.getElem?_map, hpi]; rfl)
    rwa [Addr.add_mid] at this

theorem World.ownsRow.rebase7 {w : World} {b b' : Nat} {e : TypeId} {size : Nat} {v : Value} {n : Nat} {xs : List Value} (h : w.ownsRow b e size v n xs) (hb : b' ≤ b) : w.ownsRow b' e size v n xs :=
  ⟨h.1, h.2.imp id fun ⟨g, cap, cur, e1, e2, e3⟩ => ⟨g, cap, cur, e1, Nat.le_trans hb e2, e3⟩⟩
/-- A new row of two slices of bytes: one that is new too, and u. -/
def IsTwo (base : Nat) (l : List Int) (u : Value) : Value → World → Prop := fun v w => ∃ B A C, v = .slice (some ⟨B, 0, none⟩) 2 2 ∧ w.heap[B]? = some (.cells #[.slice A l.length C, u] 22 (0, 0)) ∧ BytesIn w A l C ∧ ∀ ad, A = some ad → base ≤ ad.block
theorem stable_two (base : Nat) (l : List Int) (u : Value) : Stable (fun W W' => Below W.heap.size W W') (IsTwo base l u) := fun v w w' ⟨B, A, C, h1, h2, h3, h4⟩ hE => ⟨B, A, C, h1, (hE.block _ (Array.getElem?_eq_some_iff.1 h2).1).trans h2, h3.below hE, h4⟩
theorem stable_fl (fs : List (Int × Int)) : Stable (fun W W' => Below W.heap.size W W') (IsFl fs) := fun v w w' ⟨A, h1, h2⟩ hE => ⟨A, h1, fields_ext (ExtC.of_below hE) h2⟩
theorem elems5 {els : List Sl7} {A14 A23 A34 : Option Addr} {C14 C23 C34 g : Nat} {l1 l2 : List Int} {x y : List Int} (hx : x.length = 32) (hy : y.length = 32) (h : els = [(A14, [71, 82, 70, 84], C14), (A23, l1, C23), (some ⟨g, 2, none⟩, x, 32), (some ⟨g, 34, none⟩, y, 32), (A34, l2, C34)]) :
    (#[.slice A14 4 C14, .slice A23 l1.length C23, .slice (some ⟨g, 2, none⟩) 32 32, .slice (some ⟨g, 34, none⟩) 32 32, .slice A34 l2.length C34] : Array Value) = (els.map slV).toArray := by subst h; simp [slV, hx, hy]

set_option maxRecDepth 100000 in
set_option maxHeartbeats 8000000 in
theorem encode_yes (D : Array Value) (o n : Int) (x y : List Int) (ca : Option Addr) (cs : List Cmd) (ccap : Nat) (hD : DeltaOf D o n x y (.slice ca cs.length ccap)) (w : World) (h : CmdsIn w ca cs ccap) (hN : cs.length < 4294967296) (hw : wrongOf o n (cores cs) = 0)
    (hl : ∀ c ∈ cs, c.l.length ≤ 1000000000) (hs : (encAll o n x y (cores cs)).length ≤ 100000000000) :
    Calls Try.prog 8 #[.agg D] w (EncPost 0 (encAll o n x y (cores cs)) w) := by
  have HPOST := Lib.hid (show ∀ (A : Option Addr) (C : Nat) (w' : World), Below w.heap.size w w' → BytesIn w' A (encAll o n x y (cores cs)) C → (∀ ad, A = some ad → w.heap.size ≤ ad.block) → EncPost 0 (encAll o n x y (cores cs)) w (.returned (.tuple #[.slice A (encAll o n x y (cores cs)).length C, .int .i64 0])) w' from fun A C w' h1 h2 h3 => by unfold EncPost; rw [if_pos rfl]; exact ⟨A, C, rfl, h1, h2, h3⟩)
  obtain ⟨POST, hP⟩ : ∃ P, P = EncPost 0 (encAll o n x y (cores cs)) w := ⟨_, rfl⟩
  rw [← hP] at HPOST ⊢
  clear hP
  obtain ⟨ho, hn, hall⟩ := wrong_zero.1 hw
  have ho' := inB_iff.1 ho
  have hn' := inB_iff.1 hn
  obtain ⟨S, hS⟩ := start1 w (deltaO D)
  have HS := Lib.hid hS
  have hg0 : (w.alloc (deltaO D)).heap[w.heap.size]? = some (deltaO D) := World.alloc_heap_new w _
  have hinf := infoDelta hD
  have hc0 := fcheck_any D o n x y ca cs ccap hD (w.alloc (deltaO D)) (h.below ((Below.refl _ w).alloc (Nat.le_refl _) _)) hN
  rw [hw] at hc0
  have HH := Lib.hid h
  have HD := Lib.hid hD
  have HALL := Lib.hid (show ∀ c ∈ cs, kindB c.core = true ∧ goodB c.core = true ∧ c.l.length ≤ 1000000000 from fun c hc => ⟨(hall c.core (List.mem_map_of_mem hc)).1, (hall c.core (List.mem_map_of_mem hc)).2, hl c hc⟩)
  obtain ⟨L, hL⟩ : ∃ L, L = cs.length := ⟨_, rfl⟩
  have HL := Lib.hid hL
  have DD := Lib.hid (fun (s : HeldW w [(w.heap.size, deltaO D)]) W (hW : Below s.w.heap.size s.w W) => (show W.cell? ⟨w.heap.size, 0, none⟩ = some (.int .i64 o) ∧ W.cell? ⟨w.heap.size, 1, none⟩ = some (.int .i64 n) ∧ W.cell? ⟨w.heap.size, 66, none⟩ = some (.slice ca L ccap) ∧ BytesIn W (some ⟨w.heap.size, 2, none⟩) x 32 ∧ BytesIn W (some ⟨w.heap.size, 34, none⟩) y 32 from by
    have hb := heap_below (s.blocks (w.heap.size, deltaO D) (by simp)) hW
    rw [hL]
    exact ⟨(cell_of hb 0).trans hD.c0, (cell_of hb 1).trans hD.c1, (cell_of hb 66).trans hD.c66, delta_bytes hD hb⟩))
  have hX := hD.xl
  have hY := hD.yl
  have HS2 := Lib.hid hs
  rw [← hL] at hN
  clear hD hs h hw ho hn hall hl hS hL
  have hokF : Hid (∀ f ∈ [((1 : Int), (1 : Int)), (o, 8), (n, 8)], (0 ≤ f.1 ∧ f.1 < 18446744073709551616) ∧ (-9223372036854775808 ≤ f.2 ∧ f.2 ≤ 9223372036854775807)) := Lib.hid fun f hf => by
    simp only [List.mem_cons, List.not_mem_nil, or_false] at hf
    rcases hf with rfl | rfl | rfl <;> simp only <;> omega
  have hokG : Hid (∀ f ∈ [((L : Int), (4 : Int))], (0 ≤ f.1 ∧ f.1 < 18446744073709551616) ∧ (-9223372036854775808 ≤ f.2 ∧ f.2 ≤ 9223372036854775807)) := Lib.hid fun f hf => by
    simp only [List.mem_cons, List.not_mem_nil, or_false] at hf
    subst hf
    simp only
    omega
  have hfitF : Hid ([((1 : Int), (1 : Int)), (o, 8), (n, 8)].all fitF = true) := Lib.hid (by
    have e1 : fitF (1, 1) = true := by decide +kernel
    simp only [List.all_cons, List.all_nil, e1, fit_len (v := o) (by omega), fit_len (v := n) (by omega), Bool.and_true])
  have hfitG : Hid ([((L : Int), (4 : Int))].all fitF = true) := Lib.hid (by
    simp only [List.all_cons, List.all_nil, fit_cnt (v := (L : Int)) (by omega), Bool.and_true])
  go_enter Try.func8, Try.ntmps8
  go_wp2_with (refine wpList_load_row rfl 27 (.tmp 1) rfl w.heap.size rfl 27 _ (0, 0) _ hg0 Try.underlying27 rfl hinf ?_)
  clear hg0 hinf
  rw [HS.out] at hc0 ⊢
  refine (HeldW.call (s := S) hc0).mono ?_
  rintro e _ ⟨rfl, s1, rfl⟩
  clear hc0
  go_wp2_with fail
  have hwu : IntKind.u64.wrap (L : Int) = L := by rw [IntKind.wrap_u64]; omega
  have HWU := Lib.hid hwu
  clear hwu
  refine wp_region_looseT 22
    [IsLit s1.w.heap.size #[.int .u8 71, .int .u8 82, .int .u8 70, .int .u8 84] 4, IsBy [71, 82, 70, 84], IsV (fldV 1 1), IsV (.pointer (some ⟨w.heap.size, 0, none⟩)), IsV (.int .i64 o), IsV (fldV o 8), IsV (.pointer (some ⟨w.heap.size, 1, none⟩)), IsV (.int .i64 n), IsV (fldV n 8), IsFl [(1, 1), (o, 8), (n, 8)], IsBy (encs [(1, 1), (o, 8), (n, 8)]),
      IsV (.pointer (some ⟨w.heap.size, 2, none⟩)), IsV (.slice (some ⟨w.heap.size, 2, none⟩) 32 32), IsV (.pointer (some ⟨w.heap.size, 34, none⟩)), IsV (.slice (some ⟨w.heap.size, 34, none⟩) 32 32), IsV (.pointer (some ⟨w.heap.size, 66, none⟩)), IsV (.slice ca L ccap), IsV (.int .i64 L), IsV (.int .u64 L), IsV (fldV L 4), IsFl [((L : Int), 4)], IsBy (encs [((L : Int), 4)])]
    [⟨13, [], []⟩, ⟨14, [(0, 13)], []⟩, ⟨15, [], []⟩, ⟨16, [], [1]⟩, ⟨17, [(3, 16)], []⟩, ⟨18, [(4, 17)], []⟩, ⟨19, [], [1]⟩, ⟨20, [(6, 19)], []⟩, ⟨21, [(7, 20)], []⟩, ⟨22, [(2, 15), (5, 18), (8, 21)], []⟩, ⟨23, [(9, 22)], []⟩, ⟨24, [], [1]⟩, ⟨25, [(11, 24)], []⟩, ⟨26, [], [1]⟩, ⟨27, [(13, 26)], []⟩, ⟨28, [], [1]⟩, ⟨29, [(15, 28)], []⟩, ⟨30, [(16, 29)], []⟩, ⟨31, [(17, 30)], []⟩, ⟨32, [(18, 31)], []⟩, ⟨33, [(19, 32)], []⟩, ⟨34, [(20, 33)], []⟩]
    (fun W => Below s1.w.heap.size s1.w W) ExtC (by kernel_rfl) (by kernel_rfl) (by kernel_rfl) rfl rfl (Below.refl _ s1.w).drew ?_
    ⟨?_, ?_, ?_, ?_, ?_, ?_, ?_, ?_, ?_, ?_, ?_, ?_, ?_, ?_, ?_, ?_, ?_, ?_, ?_, ?_, ?_, ?_, trivial⟩ ?_
  · repeat (first | (intro _ h; cases h; done) | refine List.forall_mem_cons.2 ⟨stable_V _ _, ?_⟩ | refine List.forall_mem_cons.2 ⟨stableX_by _, ?_⟩ | refine List.forall_mem_cons.2 ⟨stableX_fl _, ?_⟩ | refine List.forall_mem_cons.2 ⟨stableX_lit _ _ _, ?_⟩)
  · intro A W hC hd hx
    refine ⟨fun g hg => (by cases hg), ?_⟩
    clear hd
    have hk : ∀ v, A.eval (.const v) = v := fun _ => rfl
    have hF := isLit_new (base := s1.w.heap.size) W #[.int .u8 71, .int .u8 82, .int .u8 70, .int .u8 84] 4 hC.size
    generalize A.eval = ρ at hk ⊢
    simp [go_sem, looseUpon, factOf, hk]
    exact ⟨hF, hC.alloc hC.size _, ExtC.of_below ((Below.refl _ W).alloc (Nat.le_refl _) _)⟩
  · intro A W hC hd hx
    refine ⟨fun g hg => (by cases hg), ?_⟩
    simp [factOf] at hd
    obtain ⟨B, hB, hbase, fr, hb⟩ := hd
    have hrun := convert_lit (n := 4) hb
    have hby : BytesIn (W.freeze ⟨B, 4, none⟩ 1) (some ⟨B, 0, none⟩) [71, 82, 70, 84] 4 := bytes_ext (ExtC.freeze W _ _) (bytes_lit (l := [71, 82, 70, 84]) hb (by simp))
    have hbf := below_freeze hC ⟨B, 4, none⟩ 1 hbase
    have hef := ExtC.freeze W ⟨B, 4, none⟩ 1
    simp only [List.size_toArray, List.length_cons, List.length_nil, Nat.zero_add, Nat.reduceAdd] at hrun
    generalize W.freeze ⟨B, 4, none⟩ 1 = W1 at *
    generalize A.eval = ρ at hB ⊢
    simp [execOp, looseUpon, factOf, hB, hrun]
    exact ⟨⟨_, _, rfl, hby⟩, hbf, hef⟩
  · intro A W hC hd hx
    have hk : ∀ v, A.eval (.const v) = v := fun _ => rfl
    clear hd
    generalize A.eval = ρ at hk ⊢
    simp [go_sem, looseUpon, factOf, hk]
    exact ⟨hC, ExtC.refl _⟩
  · intro A W hC hd hx
    have hk : ∀ v, A.eval (.const v) = v := fun _ => rfl
    have hy0 : A.eval (.tmp 1) = .pointer (some ⟨w.heap.size, 0, none⟩) := hx 1 (by simp)
    clear hd
    generalize A.eval = ρ at hk hy0 ⊢
    simp [go_sem, looseUpon, factOf, hk, hy0]
    exact ⟨hC, ExtC.refl _⟩
  · intro A W hC hd hx
    have hk : ∀ v, A.eval (.const v) = v := fun _ => rfl
    have c0 := (DD.out s1 W hC).1
    simp [factOf] at hd
    generalize A.eval = ρ at hd hk ⊢
    simp [go_sem, looseUpon, factOf, hd, hk, c0]
    exact ⟨hC, ExtC.refl _⟩
  · intro A W hC hd hx
    refine ⟨fun g hg => (by cases hg), ?_⟩
    refine loose_call rfl Try.func25 (by kernel_rfl) (by kernel_rfl) ?_
    simp [factOf] at hd
    simp only [List.map_toArray, List.map_cons, List.map_nil, hd]
    refine (flength_any o (by omega) (by omega) W).mono ?_
    rintro e' W' ⟨rfl, h4⟩
    exact ⟨_, rfl, rfl, hC.trans (h4.mono hC.size), ExtC.of_below h4⟩
  · intro A W hC hd hx
    have hk : ∀ v, A.eval (.const v) = v := fun _ => rfl
    have hy0 : A.eval (.tmp 1) = .pointer (some ⟨w.heap.size, 0, none⟩) := hx 1 (by simp)
    clear hd
    generalize A.eval = ρ at hk hy0 ⊢
    simp [go_sem, looseUpon, factOf, hk, hy0]
    exact ⟨hC, ExtC.refl _⟩
  · intro A W hC hd hx
    have hk : ∀ v, A.eval (.const v) = v := fun _ => rfl
    have c0 := (DD.out s1 W hC).2.1
    simp [factOf] at hd
    generalize A.eval = ρ at hd hk ⊢
    simp [go_sem, looseUpon, factOf, hd, hk, c0]
    exact ⟨hC, ExtC.refl _⟩
  · intro A W hC hd hx
    refine ⟨fun g hg => (by cases hg), ?_⟩
    refine loose_call rfl Try.func25 (by kernel_rfl) (by kernel_rfl) ?_
    simp [factOf] at hd
    simp only [List.map_toArray, List.map_cons, List.map_nil, hd]
    refine (flength_any n (by omega) (by omega) W).mono ?_
    rintro e' W' ⟨rfl, h4⟩
    exact ⟨_, rfl, rfl, hC.trans (h4.mono hC.size), ExtC.of_below h4⟩
  · intro A W hC hd hx
    refine ⟨fun g hg => (by cases hg), ?_⟩
    simp [factOf] at hd
    obtain ⟨hd0, hd1, hd2⟩ := hd
    have hF := isFl_new W [(1, 1), (o, 8), (n, 8)] _ rfl (by simp) hokF.out
    simp only [List.flatMap_cons, List.flatMap_nil, List.cons_append, List.nil_append, List.length_cons, List.length_nil, Nat.zero_add, Nat.reduceAdd] at hF
    generalize A.eval = ρ at hd0 hd1 hd2 ⊢
    simp [go_sem, looseUpon, factOf, hd0, hd1, hd2]
    exact ⟨hF, hC.alloc hC.size _, ExtC.of_below ((Below.refl _ W).alloc (Nat.le_refl _) _)⟩
  · intro A W hC hd hx
    refine ⟨fun g hg => (by cases hg), ?_⟩
    refine loose_call rfl Try.func24 (by kernel_rfl) (by kernel_rfl) ?_
    simp [factOf] at hd
    obtain ⟨A1, hd, hf⟩ := hd
    simp only [List.map_toArray, List.map_cons, List.map_nil, hd]
    refine (fnumbers_any _ A1 _ W hf (by simp) hfitF.out).mono ?_
    rintro e' _ ⟨v', rfl, so, rfl⟩
    have hown := so.own
    rw [List.length_map] at hown
    obtain ⟨A2, C2, rfl, hby, -⟩ := own_sl hown
    exact ⟨_, rfl, ⟨A2, C2, rfl, hby⟩, hC.trans (so.below.mono hC.size), ExtC.of_below so.below⟩
  · intro A W hC hd hx
    have hk : ∀ v, A.eval (.const v) = v := fun _ => rfl
    have hy0 : A.eval (.tmp 1) = .pointer (some ⟨w.heap.size, 0, none⟩) := hx 1 (by simp)
    clear hd
    generalize A.eval = ρ at hk hy0 ⊢
    simp [go_sem, looseUpon, factOf, hk, hy0]
    exact ⟨hC, ExtC.refl _⟩
  · intro A W hC hd hx
    have hk : ∀ v, A.eval (.const v) = v := fun _ => rfl
    have c0 := slice_arr w.heap.size 2 W
    simp [factOf] at hd
    generalize A.eval = ρ at hd hk ⊢
    simp [go_sem, looseUpon, factOf, hd, hk, c0]
    exact ⟨hC, ExtC.refl _⟩
  · intro A W hC hd hx
    have hk : ∀ v, A.eval (.const v) = v := fun _ => rfl
    have hy0 : A.eval (.tmp 1) = .pointer (some ⟨w.heap.size, 0, none⟩) := hx 1 (by simp)
    clear hd
    generalize A.eval = ρ at hk hy0 ⊢
    simp [go_sem, looseUpon, factOf, hk, hy0]
    exact ⟨hC, ExtC.refl _⟩
  · intro A W hC hd hx
    have hk : ∀ v, A.eval (.const v) = v := fun _ => rfl
    have c0 := slice_arr w.heap.size 34 W
    simp [factOf] at hd
    generalize A.eval = ρ at hd hk ⊢
    simp [go_sem, looseUpon, factOf, hd, hk, c0]
    exact ⟨hC, ExtC.refl _⟩
  · intro A W hC hd hx
    have hk : ∀ v, A.eval (.const v) = v := fun _ => rfl
    have hy0 : A.eval (.tmp 1) = .pointer (some ⟨w.heap.size, 0, none⟩) := hx 1 (by simp)
    clear hd
    generalize A.eval = ρ at hk hy0 ⊢
    simp [go_sem, looseUpon, factOf, hk, hy0]
    exact ⟨hC, ExtC.refl _⟩
  · intro A W hC hd hx
    have hk : ∀ v, A.eval (.const v) = v := fun _ => rfl
    have c0 := (DD.out s1 W hC).2.2.1
    simp [factOf] at hd
    generalize A.eval = ρ at hd hk ⊢
    simp [go_sem, looseUpon, factOf, hd, hk, c0]
    exact ⟨hC, ExtC.refl _⟩
  · intro A W hC hd hx
    have hk : ∀ v, A.eval (.const v) = v := fun _ => rfl
    simp [factOf] at hd
    generalize A.eval = ρ at hd hk ⊢
    simp [go_sem, looseUpon, factOf, hd, hk]
    exact ⟨hC, ExtC.refl _⟩
  · intro A W hC hd hx
    have hk : ∀ v, A.eval (.const v) = v := fun _ => rfl
    have c0 := HWU.out
    simp [factOf] at hd
    generalize A.eval = ρ at hd hk ⊢
    simp [go_sem, looseUpon, factOf, hd, hk, c0]
    exact ⟨hC, ExtC.refl _⟩
  · intro A W hC hd hx
    have hk : ∀ v, A.eval (.const v) = v := fun _ => rfl
    simp [factOf] at hd
    generalize A.eval = ρ at hd hk ⊢
    simp [go_sem, looseUpon, factOf, hd, hk]
    exact ⟨hC, ExtC.refl _⟩
  · intro A W hC hd hx
    refine ⟨fun g hg => (by cases hg), ?_⟩
    simp [factOf] at hd
    have hF := isFl_new W [((L : Int), 4)] _ rfl (by simp) hokG.out
    simp only [List.flatMap_cons, List.flatMap_nil, List.cons_append, List.nil_append, List.length_cons, List.length_nil, Nat.zero_add] at hF
    generalize A.eval = ρ at hd ⊢
    simp [go_sem, looseUpon, factOf, hd]
    exact ⟨hF, hC.alloc hC.size _, ExtC.of_below ((Below.refl _ W).alloc (Nat.le_refl _) _)⟩
  · intro A W hC hd hx
    refine ⟨fun g hg => (by cases hg), ?_⟩
    refine loose_call rfl Try.func24 (by kernel_rfl) (by kernel_rfl) ?_
    simp [factOf] at hd
    obtain ⟨A1, hd, hf⟩ := hd
    simp only [List.map_toArray, List.map_cons, List.map_nil, hd]
    refine (fnumbers_any _ A1 _ W hf (by simp) hfitG.out).mono ?_
    rintro e' _ ⟨v', rfl, so, rfl⟩
    have hown := so.own
    rw [List.length_map] at hown
    obtain ⟨A2, C2, rfl, hby, -⟩ := own_sl hown
    exact ⟨_, rfl, ⟨A2, C2, rfl, hby⟩, hC.trans (so.below.mono hC.size), ExtC.of_below so.below⟩
  intro W hC
  simp only [ends]
  rintro _ - _ ⟨A14, C14, rfl, b14⟩ _ rfl _ rfl _ rfl _ rfl _ rfl _ rfl _ rfl _ ⟨_, rfl, -⟩ _ ⟨A23, C23, rfl, b23⟩ _ rfl _ rfl _ rfl _ rfl _ rfl _ rfl _ rfl _ rfl _ rfl _ ⟨_, rfl, -⟩ _ ⟨A34, C34, rfl, b34⟩
  simp only [putAll, List.zip_cons_cons, List.zip_nil_left, List.foldl_cons, List.foldl_nil, Act.put, List.setIfInBounds_toArray, List.set_cons_succ, List.set_cons_zero, List.drop_succ_cons, List.drop_zero, List.length_cons, List.length_nil, Nat.zero_add, Nat.reduceAdd]
  obtain ⟨d0, d1, d66, dx, dy⟩ := DD.out s1 W hC
  obtain ⟨els, hels⟩ : ∃ els : List Sl7, els = [(A14, [71, 82, 70, 84], C14), (A23, encs [(1, 1), (o, 8), (n, 8)], C23), (some ⟨w.heap.size, 2, none⟩, x, 32), (some ⟨w.heap.size, 34, none⟩, y, 32), (A34, encs [((L : Int), 4)], C34)] := ⟨_, rfl⟩
  have hcs5 := elems5 hX hY hels
  have hel : ∀ p ∈ els, BytesIn W p.1 p.2.1 p.2.2 := fun p hp => by
    rw [hels] at hp
    simp only [List.mem_cons, List.not_mem_nil, or_false] at hp
    rcases hp with rfl | rfl | rfl | rfl | rfl
    · exact b14
    · exact b23
    · exact dx
    · exact dy
    · exact b34
  have hlen5 : els.length = 5 := by rw [hels]; rfl
  obtain ⟨S0, hS0⟩ := Grow.init W els _ hcs5 hel 5 hlen5 (by omega)
  have hfl : (els.map fun p => p.2.1).flatten = encH o n x y L ++ ((cores cs).take 0).flatMap encK := by
    rw [hels, List.take_zero, List.flatMap_nil, List.append_nil, ← encs_head]
    simp only [List.map_cons, List.map_nil, List.flatten_cons, List.flatten_nil, List.append_nil]
  have HS0 := Lib.hid hS0
  have HFL := Lib.hid hfl
  have HL5 := Lib.hid hlen5
  have hW : Below w.heap.size w W := s1.below.trans (hC.mono s1.below.size)
  have HW := Lib.hid hW
  have hEE := elemWP
  have e66 := (DD.out s1 S0.w (hC.trans (S0.but.below.mono hC.size))).2.2.1
  rw [← hS0] at e66
  clear hS0 hfl hcs5 hel hels b14 b23 b34 dx dy d0 d1 d66 hW
  have HC := Lib.hid hC
  clear hC
  go_wp2_with fail
  rw [HS0.out]
  clear e66
  go_loopw [5, 39] (fun v i wr => ∃ k : Nat, k ≤ L ∧ i = .int .i64 k ∧ Nonempty (EncLoop W v (encH o n x y L ++ ((cores cs).take k).flatMap encK) (5 + 2 * k) wr)) (fun _ i _ => L - (intOf i).toNat)
  case atStart => exact ⟨0, by omega, rfl, ⟨⟨els, S0, rfl, HFL.out, HL5.out⟩⟩⟩
  case round =>
    obtain ⟨k, hk, rfl, ⟨⟨els1, S, rfl, hfl1, hlen1⟩⟩⟩ := hrel
    have HFL1 := Lib.hid hfl1
    have HLN1 := Lib.hid hlen1
    have hSW : Below w.heap.size w S.w := HW.out.trans (S.but.below.mono HW.out.size)
    clear hfl1 hlen1
    by_cases hlt : k < L
    · obtain ⟨c, hc⟩ : ∃ c, cs[k]? = some c := ⟨_, List.getElem?_eq_getElem (by rw [← HL.out]; exact hlt)⟩
      have hcm := List.mem_of_getElem? hc
      obtain ⟨gk, gg, gl⟩ := HALL.out c hcm
      obtain ⟨b, oo, rfl, x0, x1, x2, x3, x4⟩ := (HH.out.below hSW).at hc
      have hok := (HH.out.below hSW).ok c hcm
      obtain ⟨B, S1, hB, hS1⟩ := S.more (cmdO c.k c.t c.f c.n (.slice c.a c.l.length c.cap))
      have HS1 := Lib.hid hS1
      have HB := Lib.hid hB
      have hcb := fun W' (hW' : Below S1.w.heap.size S1.w W') => cmd_cells (heap_below (S1.blocks (B, cmdO c.k c.t c.f c.n (.slice c.a c.l.length c.cap)) (by simp)).1 hW')
      have HCB := Lib.hid hcb
      have hoc := hok.b.below (show Below S.w.heap.size S.w S1.w by rw [← hS1]; exact (Below.refl _ _).alloc (Nat.le_refl _) _)
      have hcapart : Hid (0 < c.l.length → ∀ ad, c.a = some ad → ad.block < w.heap.size) := Lib.hid fun hp ad had => by
        obtain ⟨b', o', he, hcc⟩ := (HH.out.ok c hcm).b.cells hp
        rw [he] at had
        cases had
        exact World.block_lt_of_cell? _ _ (hcc 0 hp)
      have HOC := Lib.hid hoc
      have hff := ffields_any c
      have hft := fit_fields gk gg (by show c.l.length ≤ _; omega)
      have HFF := Lib.hid (fun W' => ffields_any c W' gk gg (by omega))
      have HFT := Lib.hid hft
      have HENC := Lib.hid (encs_fieldsK gk gg)
      have HTK := Lib.hid (show ((cores cs).take (k + 1)).flatMap encK = ((cores cs).take k).flatMap encK ++ encK c.core by
        have := cores_get hc
        obtain ⟨hk1, hk2⟩ := List.getElem?_eq_some_iff.1 this
        rw [List.take_succ_eq_append_getElem hk1, hk2, List.flatMap_append]
        simp)
      clear hS1 hB hcb hoc hff hft gk gg hok hc
      have HGL := Lib.hid gl
      clear gl
      go_wp2_with fail
      rw [HS1.out, ← HB.out]
      clear x0 x1 x2 x3 x4
      refine wp_region_looseT 7
        [IsV u5, IsV (cmdW c), IsFl (fieldsK c.core), IsOwn S1.w.heap.size id (encs (fieldsK c.core)), IsV (.pointer (some ⟨B, 4, none⟩)), IsV (.slice c.a c.l.length c.cap), IsTwo S1.w.heap.size (encs (fieldsK c.core)) (.slice c.a c.l.length c.cap)]
        [⟨43, [], [5]⟩, ⟨44, [], [7]⟩, ⟨45, [(1, 44)], []⟩, ⟨46, [(2, 45)], []⟩, ⟨47, [], [7]⟩, ⟨48, [(4, 47)], []⟩, ⟨49, [(3, 46), (5, 48)], []⟩]
        (fun W => Below S1.w.heap.size S1.w W) (fun W W' => Below W.heap.size W W') (by kernel_rfl) (by kernel_rfl) (by kernel_rfl) rfl rfl (Below.refl _ S1.w).drew ?_
        ⟨?_, ?_, ?_, ?_, ?_, ?_, ?_, trivial⟩ ?_
      · repeat (first | (intro _ h; cases h; done) | refine List.forall_mem_cons.2 ⟨stable_V _ _, ?_⟩ | refine List.forall_mem_cons.2 ⟨stable_fl _, ?_⟩ | refine List.forall_mem_cons.2 ⟨stable_two _ _ _, ?_⟩ | refine List.forall_mem_cons.2 ⟨stable_own _ _ _, ?_⟩)
      · intro A W hC hd hx
        have hk : ∀ v, A.eval (.const v) = v := fun _ => rfl
        have hy0 : A.eval (.tmp 5) = u5 := hx 5 (by simp)
        clear hd
        generalize A.eval = ρ at hk hy0 ⊢
        simp [go_sem, looseUpon, factOf, hk, hy0]
        exact ⟨hC, Below.refl _ _⟩
      · intro A W hC hd hx
        have hk : ∀ v, A.eval (.const v) = v := fun _ => rfl
        have hy0 : A.eval (.tmp 7) = .pointer (some ⟨B, 0, none⟩) := hx 7 (by simp)
        have c0 := (HCB.out W hC).1
        have c1 := (HCB.out W hC).2.1
        have c2 := (HCB.out W hC).2.2.1
        have c3 := (HCB.out W hC).2.2.2.1
        have c4 := (HCB.out W hC).2.2.2.2
        clear hd
        generalize A.eval = ρ at hk hy0 ⊢
        simp [go_sem, looseUpon, factOf, hk, hy0, c0, c1, c2, c3, c4]
        exact ⟨hC, Below.refl _ _⟩
      · intro A W hC hd hx
        refine ⟨fun g hg => (by cases hg), ?_⟩
        refine loose_call rfl Try.func26 (by kernel_rfl) (by kernel_rfl) ?_
        simp [factOf] at hd
        simp only [List.map_toArray, List.map_cons, List.map_nil, hd]
        refine (HFF.out W).mono ?_
        rintro e' W' ⟨g, rfl, hb, -, hf⟩
        exact ⟨_, rfl, ⟨_, rfl, hf⟩, hC.trans (hb.mono hC.size), hb⟩
      · intro A W hC hd hx
        refine ⟨fun g hg => (by cases hg), ?_⟩
        refine loose_call rfl Try.func24 (by kernel_rfl) (by kernel_rfl) ?_
        simp [factOf] at hd
        obtain ⟨A1, hd, hf⟩ := hd
        simp only [List.map_toArray, List.map_cons, List.map_nil, hd]
        refine (fnumbers_any _ A1 _ W hf (by unfold fieldsK; split <;> simp) HFT.out).mono ?_
        rintro e' _ ⟨v', rfl, so, rfl⟩
        have hown := so.own
        rw [List.length_map] at hown
        have hown2 := World.ownsRow.rebase7 hown hC.size
        obtain ⟨A2, C2, rfl, -, -⟩ := own_sl hown
        exact ⟨_, rfl, ⟨A2, C2, rfl, hown2⟩, hC.trans (so.below.mono hC.size), so.below⟩
      · intro A W hC hd hx
        have hk : ∀ v, A.eval (.const v) = v := fun _ => rfl
        have hy0 : A.eval (.tmp 7) = .pointer (some ⟨B, 0, none⟩) := hx 7 (by simp)
        clear hd
        generalize A.eval = ρ at hk hy0 ⊢
        simp [go_sem, looseUpon, factOf, hk, hy0]
        exact ⟨hC, Below.refl _ _⟩
      · intro A W hC hd hx
        have hk : ∀ v, A.eval (.const v) = v := fun _ => rfl
        have c0 := (HCB.out W hC).2.2.2.2
        simp [factOf] at hd
        generalize A.eval = ρ at hd hk ⊢
        simp [go_sem, looseUpon, factOf, hd, hk, c0]
        exact ⟨hC, Below.refl _ _⟩
      · intro A W hC hd hx
        refine ⟨fun g hg => (by cases hg), ?_⟩
        simp [factOf] at hd
        obtain ⟨⟨A2, C2, hd1, hrow⟩, hd2⟩ := hd
        simp only [id] at hd1
        obtain ⟨A3, C3, he, hby, hge⟩ := own_sl hrow
        cases he
        have hF : IsTwo S1.w.heap.size (encs (fieldsK c.core)) (.slice c.a c.l.length c.cap) (.slice (some ⟨W.heap.size, 0, none⟩) 2 2) (W.alloc (.cells #[.slice A2 (encs (fieldsK c.core)).length C2, .slice c.a c.l.length c.cap] 22)) :=
          ⟨W.heap.size, A2, C2, rfl, heap_new W _ rfl, hby.below ((Below.refl _ W).alloc (Nat.le_refl _) _), fun ad had => (hge ad had).1⟩
        generalize encs (fieldsK c.core) = ENC at *
        generalize A.eval = ρ at hd1 hd2 ⊢
        simp [go_sem, looseUpon, factOf, hd1, hd2]
        exact ⟨hF, hC.alloc hC.size _, (Below.refl _ W).alloc (Nat.le_refl _) _⟩
      intro W2 hC2
      simp only [ends]
      rintro _ rfl _ rfl _ ⟨_, rfl, -⟩ _ ⟨_, _, rfl, -⟩ _ rfl _ rfl _ ⟨B2, A2, C2, rfl, hB2, hby2, hge2⟩
      simp only [putAll, List.zip_cons_cons, List.zip_nil_left, List.foldl_cons, List.foldl_nil, Act.put, List.setIfInBounds_toArray, List.set_cons_succ, List.set_cons_zero, List.drop_succ_cons, List.drop_zero]
      obtain ⟨S2, rfl⟩ := S1.later hC2
      obtain ⟨S3, hS3⟩ := S2.addEl (c.a, c.l, c.cap) (HOC.out.below hC2) (fun hp ad had => ⟨fun hg => by
        have h1 := hcapart.out hp ad had
        have h2 := (S2.own.lt _ hg).1
        have := HW.out.size
        omega, fun hg => by cases hg⟩)
      obtain ⟨S4, hS4⟩ := S3.addEl (A2, encs (fieldsK c.core), C2) (by rw [← hS3]; exact hby2) (fun hp ad had => ⟨fun hg => by
        have h1 := hge2 ad had
        have h2 := S1.ownLt hg
        omega, fun hg => by cases hg⟩)
      have hrow2 : S4.w.heap[B2]? = some (.cells #[.slice A2 (encs (fieldsK c.core)).length C2, .slice c.a c.l.length c.cap] 22 (0, 0)) := by rw [← hS4, ← hS3]; exact hB2
      rw [hS3, hS4]
      obtain ⟨E, hE⟩ := elemWP
      have hbb : (5 + 2 * k + 2) * E.bytes ≤ 140737488355328 := by rw [hE]; omega
      have HROW := Lib.hid hrow2
      clear hS3 hS4 hB2 hby2 hge2 hC2 S3 hrow2 hE
      refine Grow.append E S4 (.tmp 43) (.tmp 49) rfl rfl rfl ⟨B2, 0, none⟩ 2 2 [slV (A2, encs (fieldsK c.core), C2), slV (c.a, c.l, c.cap)] rfl rfl (fun j u hu => ?_) (fun u hu => ?_) (by unfold maxLen; omega) hbb (fun v' S5 => ?_)
      · rw [Addr.add_mid, Nat.zero_add, cell_of HROW.out]
        simpa [slV] using hu
      · simp only [List.mem_cons, List.not_mem_nil, or_false] at hu
        rcases hu with rfl | rfl <;> rfl
      obtain ⟨S6, hS6⟩ := S5.elsub (els' := els1 ++ [(A2, encs (fieldsK c.core), C2), (c.a, c.l, c.cap)]) (fun p hp => by
        rcases List.mem_append.1 hp with hp | hp
        · exact List.mem_cons_of_mem _ (List.mem_cons_of_mem _ hp)
        · simp only [List.mem_cons, List.not_mem_nil, or_false] at hp
          rcases hp with rfl | rfl <;> simp)
      obtain ⟨S7, hS7⟩ := S6.sub (bs' := []) (by simp)
      obtain ⟨S8, hS8⟩ := S7.conv (n' := 5 + 2 * (k + 1)) (xs' := (els1 ++ [(A2, encs (fieldsK c.core), C2), (c.a, c.l, c.cap)]).map slV) (by omega) (by simp)
      have hR : Hid (Nonempty (EncLoop W v' (encH o n x y L ++ ((cores cs).take (k + 1)).flatMap encK) (5 + 2 * (k + 1)) S5.w)) := Lib.hid ⟨⟨_, S8, hS6.trans (hS7.trans hS8), by
        rw [List.map_append, List.flatten_append, HFL1.out, HTK.out, ← HENC.out]
        simp, by rw [List.length_append, HLN1.out]; simp; omega⟩⟩
      clear hS6 hS7 hS8 S6 S7 S8 HROW hbb
      generalize S5.w = W5 at hR ⊢
      go_wp2
      go_roundw
      case rel => exact ⟨k + 1, by omega, by go_num, hR.out⟩
      case measure => simp [intOf]; omega
    · obtain rfl : k = L := by omega
      obtain ⟨A9, C9, rfl, hp9⟩ := parts_of S HLN1.out
      have hfl9 : (els1.map fun p => p.2.1).flatten = encAll o n x y (cores cs) := by
        have : k = (cores cs).length := by rw [HL.out]; simp [cores]
        rw [HFL1.out]
        unfold encAll
        rw [this, List.take_length]
      have hcat := concat8_any (els1.map fun p => p.2.1) A9 C9 S.w hp9 (by rw [hfl9]; have := HS2.out; omega)
      rw [hfl9] at hcat
      obtain ⟨W8, hW8⟩ : ∃ W8, W8 = S.w := ⟨_, rfl⟩
      rw [← hW8] at hcat hSW ⊢
      clear hfl9 hp9 hW8 S
      generalize (els1.map fun p => p.2.1).length = M9 at hcat ⊢
      have HSW := Lib.hid hSW
      clear hSW
      go_wp2_with fail
      refine hcat.mono ?_
      rintro e _ ⟨v9, rfl, so, rfl⟩
      clear hcat
      have hown := so.own
      rw [List.length_map] at hown
      obtain ⟨A2, C2, rfl, hby, hge⟩ := own_sl hown
      have hfin := HPOST.out A2 C2 so.w (HSW.out.trans (so.below.mono HSW.out.size)) hby (fun ad had => Nat.le_trans HSW.out.size (hge ad had).1)
      have HFIN := Lib.hid hfin
      clear hown hby hge hfin
      generalize so.w = W9 at HFIN ⊢
      generalize (encAll o n x y (cores cs)).length = M at HFIN ⊢
      go_wp2
      exact HFIN.out
end Go.Proofs.Ytefonhnidkfbgaa
