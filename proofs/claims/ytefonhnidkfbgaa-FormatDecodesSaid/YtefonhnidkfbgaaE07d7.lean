import Derived.Test.YtefonhnidkfbgaaE07d6
/- Uint of package wire. -/
namespace Go.Proofs.Ytefonhnidkfbgaa
open Go.RowKit
set_option linter.unusedVariables false
set_option linter.unusedSimpArgs false

/-- One more digit. -/
def stepU (x d : Int) : Int := bits .or .u64 (IntKind.u64.wrap (x * 256)) (IntKind.u64.wrap d)
def beval (l : List Int) : Int := l.foldl stepU 0
theorem beval_snoc (l : List Int) {k : Nat} (hk : k < l.length) : beval (l.take (k + 1)) = stepU (beval (l.take k)) (l[k]?.getD 0) := by
  rw [List.take_succ_eq_append_getElem hk, List.getElem?_eq_getElem hk]
  simp only [beval, List.foldl_append, List.foldl_cons, List.foldl_nil, Option.getD_some]
abbrev u64O (x : Int) : Obj := .cells #[.int .u64 x] 52 (0, 0)

/-- A cell outside of the block that may be written. -/
theorem src_cellX {w : World} {h : Nat} {b o : Nat} {v : Value} (hb : b ≠ h) (hc : w.cell? ⟨b, o, none⟩ = some v) {bs : List (Nat × Obj)} (s : HeldX w h bs) : s.w.cell? ⟨b, o, none⟩ = some v := by
  rw [← hc]; unfold World.cell?; rw [s.but.block b (World.block_lt_of_cell? w _ hc) hb]

set_option maxRecDepth 100000 in
theorem uintC_any (V cap : Nat) (A : Option Addr) (l : List Int) (w : World) (hV : w.heap[V]? = some (u64O 0)) (hs : Src w V A l) (hl : l.length ≤ 8) :
    Calls Try.prog 50 #[.slice A l.length cap, .pointer (some ⟨V, 0, none⟩)] w (Puts V (u64O (beval l)) (.tuple #[]) w) := by
  have HS := Lib.hid hs
  have HV := Lib.hid (show w.heap[V]? = some (u64O (beval (l.take 0))) from hV)
  clear hs hV
  go_enter Try.func50, Try.ntmps50
  go_wp2
  go_loopw [4, 7] (fun _ i wr => ∃ k : Nat, k ≤ l.length ∧ i = .int .i64 k ∧ ∃ s : HeldX w V [(V, u64O (beval (l.take k)))], wr = s.w) (fun _ i _ => l.length - (intOf i).toNat)
  case atStart => exact ⟨0, by omega, rfl, HeldX.start HV.out, rfl⟩
  case round =>
    obtain ⟨k, hk, rfl, s, rfl⟩ := hrel
    by_cases hlt : k < l.length
    · obtain ⟨b, o, rfl, hb, hc⟩ := HS.out (by omega)
      have c1 := src_cellX hb (hc k hlt) s
      have hblk := s.blocks (_, _) List.mem_cons_self
      have cV : s.w.cell? ⟨V, 0, none⟩ = some (.int .u64 (beval (l.take k))) := by rw [cell_of hblk]; rfl
      have fV := free_of hblk 0
      have hsn := beval_snoc l hlt
      clear hc hblk
      generalize l[k]?.getD 0 = d at c1 hsn
      generalize beval (l.take k) = x at *
      have HSN := Lib.hid hsn
      clear hsn
      go_wp2
      go_roundw
      case rel => exact ⟨k + 1, by omega, by go_num, s.store (cs' := #[.int .u64 (beval (l.take (k + 1)))]) (.inl rfl) (by simp) (by rw [HSN.out]; rfl), rfl⟩
      case measure => simp [intOf]; omega
    · obtain rfl : k = l.length := by omega
      have hblk : s.w.heap[V]? = some (u64O (beval l)) := (s.blocks (_, _) List.mem_cons_self).trans (by simp only [List.take_length])
      have HB := Lib.hid hblk
      clear hblk
      go_wp2
      go_end0
      exact ⟨rfl, s.but, HB.out⟩

/-- The bytes from lo to hi. -/
theorem cut_mid {w : World} {a : Option Addr} {l : List Int} {cap : Nat} (h : BytesIn w a l cap) (lo hi : Nat) (h1 : lo ≤ hi) (h2 : hi ≤ l.length) :
    ∃ A, (∀ W, (Instr.slice 22 (.slice a l.length cap) (some (.int .i64 (lo : Int))) (some (.int .i64 (hi : Int))) none).run Try.prog W = .ok (.slice A (hi - lo) (cap - lo)) W) ∧ BytesIn w A ((l.drop lo).take (hi - lo)) (cap - lo) := by
  have hlen : ((l.drop lo).take (hi - lo)).length = hi - lo := by rw [List.length_take, List.length_drop]; omega
  refine ⟨if cap = lo then a else a.map (·.add (lo * 1)), fun W => ?_, by rw [hlen]; have := h.len; omega, by have := h.capb; omega, fun hp => ?_, fun h0 => ?_⟩
  · rw [run_slice_lh (P := Try.prog) W 22 a l.length cap (by kernel_rfl) .i64 .i64 (lo : Int) (hi : Int) (by omega) (by omega) (by have := h.len; omega), size_u8]
    simp only [Result.andThen_ok, sliced, Int.toNat_natCast]
  · rw [hlen] at hp
    obtain ⟨b, o, rfl, hc⟩ := h.cells (by omega)
    have := h.len
    rw [if_neg (by omega)]
    refine ⟨b, o + lo, by simp [Addr.add_mid], fun i hi => ?_⟩
    rw [hlen] at hi
    rw [Nat.add_assoc, hc (lo + i) (by omega), List.getElem?_take, if_pos (by omega), List.getElem?_drop]
  · by_cases hc : cap = lo
    · omega
    · rw [if_neg hc] at h0
      cases a with
      | none => have := h.nil rfl; omega
      | some ad => cases h0
/-- Bytes outside of a block stay there. -/
theorem src_below {w w' : World} {h : Nat} {a : Option Addr} {l : List Int} (hs : Src w h a l) (hb : Below w.heap.size w w') : Src w' h a l := fun hp => by
  obtain ⟨b, o, rfl, hne, hc⟩ := hs hp
  exact ⟨b, o, rfl, hne, fun i hi => (hb.cell (p := ⟨b, o + i, none⟩) (World.block_lt_of_cell? _ _ (hc i hi))).trans (hc i hi)⟩

/-- A size of a number. -/
theorem isSize_any (n : Int) (w : World) : Calls Try.prog 49 #[.int .i64 n] w (fun e w' => e = .returned (.bool (decide (1 ≤ n ∧ n ≤ 8))) ∧ w' = w) := by
  by_cases h1 : 1 ≤ n
  · by_cases h2 : n ≤ 8
    · have hd : decide (1 ≤ n ∧ n ≤ 8) = true := decide_eq_true ⟨h1, h2⟩
      rw [hd]
      go_enter Try.func49, Try.ntmps49
      go_wp2
      go_ret
      exact ⟨rfl, rfl⟩
    · have hd : decide (1 ≤ n ∧ n ≤ 8) = false := decide_eq_false (fun h => h2 h.2)
      rw [hd]
      go_enter Try.func49, Try.ntmps49
      go_wp2
      go_ret
      exact ⟨rfl, rfl⟩
  · have hd : decide (1 ≤ n ∧ n ≤ 8) = false := decide_eq_false (fun h => h1 h.1)
    rw [hd]
    go_enter Try.func49, Try.ntmps49
    go_wp2
    go_ret
    exact ⟨rfl, rfl⟩

theorem uint_nil (k : Int) (w : World) : Calls Try.prog 33 #[.pointer none, .int .i64 k] w (Gives (.int .u64 0) w) := by
  by_cases hk : 1 ≤ k ∧ k ≤ 8
  · have hi := isSize_any k w
    rw [decide_eq_true hk] at hi
    have hr := read_nil
    clear hk
    go_enter Try.func33, Try.ntmps33
    go_wp2_with fail
    refine (HeldW.call (s := HeldW.start w) (gives_same hi)).mono ?_
    rintro e _ ⟨rfl, s1, rfl⟩
    clear hi
    go_wp2_with fail
    refine (HeldW.call (s := s1.push (u64O 0)) (hr _ _ _)).mono ?_
    rintro e _ ⟨rfl, s2, rfl⟩
    have cV : s2.w.cell? ⟨s1.w.heap.size, 0, none⟩ = some (.int .u64 0) := by rw [cell_of (s2.blocks (_, _) List.mem_cons_self)]; rfl
    clear hr
    go_wp2
    go_ret
    exact ⟨rfl, s2.below⟩
  · have hi := isSize_any k w
    rw [decide_eq_false hk] at hi
    have ha := at_nil
    have hf := fail_nil
    clear hk
    go_enter Try.func33, Try.ntmps33
    go_wp2_with fail
    refine (HeldW.call (s := HeldW.start w) (gives_same hi)).mono ?_
    rintro e _ ⟨rfl, s1, rfl⟩
    go_wp2_with fail
    refine (HeldW.call (s := s1) (gives_same (ha _))).mono ?_
    rintro e _ ⟨rfl, s2, rfl⟩
    go_wp2_with fail
    refine (HeldW.call (s := s2) (hf _ _ _)).mono ?_
    rintro e _ ⟨rfl, s3, rfl⟩
    go_wp2
    go_ret
    exact ⟨rfl, s3.below⟩

section
variable (g n L dcap : Nat) (da : Option Addr) (w : World)
theorem uint_not (c p k : Int) (h : w.heap[g]? = some (rdO n L da dcap c p)) (hc : c ≠ 0) : Calls Try.prog 33 #[.pointer (some ⟨g, 0, none⟩), .int .i64 k] w (Gives (.int .u64 0) w) := by
  have hr := fun (W : World) (H : W.heap[g]? = some (rdO n L da dcap c p)) u => read_not g n L dcap da c p k u W H hc
  have ha := fun (W : World) (H : W.heap[g]? = some (rdO n L da dcap c p)) => at_any g n L dcap da c p W H
  have hf := fun (W : World) (H : W.heap[g]? = some (rdO n L da dcap c p)) => fail_no g n L dcap da c p 2 n W H hc
  have HH := Lib.hid h
  clear h
  by_cases hk : 1 ≤ k ∧ k ≤ 8
  · have hi := isSize_any k w
    rw [decide_eq_true hk] at hi
    clear hk
    go_enter Try.func33, Try.ntmps33
    go_wp2_with fail
    refine (HeldW.call (s := HeldW.start w) (gives_same hi)).mono ?_
    rintro e _ ⟨rfl, s1, rfl⟩
    clear hi
    go_wp2_with fail
    refine (HeldW.call (s := s1.push (u64O 0)) (hr _ (heap_below HH.out (s1.push (u64O 0)).below) _)).mono ?_
    rintro e _ ⟨rfl, s2, rfl⟩
    have cV : s2.w.cell? ⟨s1.w.heap.size, 0, none⟩ = some (.int .u64 0) := by rw [cell_of (s2.blocks (_, _) List.mem_cons_self)]; rfl
    clear hr
    go_wp2
    go_ret
    exact ⟨rfl, s2.below⟩
  · have hi := isSize_any k w
    rw [decide_eq_false hk] at hi
    clear hk
    go_enter Try.func33, Try.ntmps33
    go_wp2_with fail
    refine (HeldW.call (s := HeldW.start w) (gives_same hi)).mono ?_
    rintro e _ ⟨rfl, s1, rfl⟩
    go_wp2_with fail
    refine (HeldW.call (s := s1) (gives_same (ha _ (heap_below HH.out s1.below)))).mono ?_
    rintro e _ ⟨rfl, s2, rfl⟩
    go_wp2_with fail
    refine (HeldW.call (s := s2) (hf _ (heap_below HH.out s2.below))).mono ?_
    rintro e _ ⟨rfl, s3, rfl⟩
    go_wp2
    go_ret
    exact ⟨rfl, s3.below⟩

theorem uint_range (p k : Int) (h : w.heap[g]? = some (rdO n L da dcap 0 p)) (hk : ¬ (1 ≤ k ∧ k ≤ 8)) : Calls Try.prog 33 #[.pointer (some ⟨g, 0, none⟩), .int .i64 k] w (Puts g (rdO n L da dcap 2 n) (.int .u64 0) w) := by
  have hi := isSize_any k w
  rw [decide_eq_false hk] at hi
  have ha := fun (W : World) (H : W.heap[g]? = some (rdO n L da dcap 0 p)) => at_any g n L dcap da 0 p W H
  have hf := fun (W : World) (H : W.heap[g]? = some (rdO n L da dcap 0 p)) => fail_any g n L dcap da p 2 n W H (by omega)
  have HH := Lib.hid h
  clear h hk
  go_enter Try.func33, Try.ntmps33
  go_wp2_with fail
  refine (HeldW.call (s := HeldW.start w) (gives_same hi)).mono ?_
  rintro e _ ⟨rfl, s1, rfl⟩
  go_wp2_with fail
  refine (HeldW.call (s := s1) (gives_same (ha _ (heap_below HH.out s1.below)))).mono ?_
  rintro e _ ⟨rfl, s2, rfl⟩
  go_wp2_with fail
  refine (hf _ (heap_below HH.out s2.below)).mono ?_
  rintro e w3 ⟨rfl, hb, ho⟩
  go_wp2
  go_ret
  exact ⟨rfl, (But.of_below s2.below).trans (hb.mono s2.below.size), ho⟩

theorem uint_short (p k : Int) (h : w.heap[g]? = some (rdO n L da dcap 0 p)) (hk : 1 ≤ k ∧ k ≤ 8) (hn : n ≤ L) (hL : L ≤ 9223372036854775807) (hs : (L : Int) - n < k) : Calls Try.prog 33 #[.pointer (some ⟨g, 0, none⟩), .int .i64 k] w (Puts g (rdO n L da dcap 8 L) (.int .u64 0) w) := by
  have hi := isSize_any k w
  rw [decide_eq_true hk] at hi
  have hr := fun (W : World) (H : W.heap[g]? = some (rdO n L da dcap 0 p)) u => read_short g n L dcap da p k u W H hn hL hs
  have HH := Lib.hid h
  clear h hk hn hL hs
  go_enter Try.func33, Try.ntmps33
  go_wp2_with fail
  refine (HeldW.call (s := HeldW.start w) (gives_same hi)).mono ?_
  rintro e _ ⟨rfl, s1, rfl⟩
  clear hi
  go_wp2_with fail
  refine (hr _ (heap_below HH.out (s1.push (u64O 0)).below) _).mono ?_
  rintro e w3 ⟨rfl, hb, ho⟩
  have hlt := (Array.getElem?_eq_some_iff.1 (heap_below HH.out s1.below)).1
  have cV : w3.cell? ⟨s1.w.heap.size, 0, none⟩ = some (.int .u64 0) := by
    rw [cell_of ((hb.block s1.w.heap.size (by simp) (by omega)).trans (World.alloc_heap_new s1.w _))]; rfl
  clear hr hlt
  go_wp2
  go_ret
  exact ⟨rfl, (But.of_below (s1.push (u64O 0)).below).trans (hb.mono (s1.push (u64O 0)).below.size), ho⟩

theorem uint_ok (D : List Int) (p : Int) (k : Nat) (h : w.heap[g]? = some (rdO n D.length da dcap 0 p)) (hk : 1 ≤ k ∧ k ≤ 8) (hn : n + k ≤ D.length) (hD : BytesIn w da D dcap) :
    Calls Try.prog 33 #[.pointer (some ⟨g, 0, none⟩), .int .i64 k] w (Puts g (rdO (n + k) D.length da dcap 0 p) (.int .u64 (beval ((D.drop n).take k))) w) := by
  have hi := isSize_any k w
  rw [decide_eq_true (by omega : (1 : Int) ≤ k ∧ (k : Int) ≤ 8)] at hi
  have hL : D.length ≤ 9223372036854775807 := Nat.le_trans hD.len hD.capb
  obtain ⟨A, hsl, hA⟩ := cut_mid hD n (n + k) (by omega) hn
  rw [show n + k - n = k by omega] at hsl hA
  rw [show ((n + k : Nat) : Int) = (n : Int) + (k : Int) by omega] at hsl
  have hpl : ((D.drop n).take k).length = k := by rw [List.length_take, List.length_drop]; omega
  generalize (D.drop n).take k = part at hA hpl ⊢
  generalize D.length = L at *
  have hlt := (Array.getElem?_eq_some_iff.1 h).1
  have HH := Lib.hid h
  have HA := Lib.hid hA
  have HSL := Lib.hid hsl
  clear h hA hsl hD
  go_enter Try.func33, Try.ntmps33
  go_wp2_with fail
  refine (HeldW.call (s := HeldW.start w) (gives_same hi)).mono ?_
  rintro e _ ⟨rfl, s1, rfl⟩
  clear hi
  go_wp2_with fail
  obtain ⟨V, hV⟩ : ∃ V, V = s1.w.heap.size := ⟨_, rfl⟩
  obtain ⟨W1, hW1⟩ : ∃ W1, W1 = s1.w.alloc (u64O 0) := ⟨_, rfl⟩
  have b1 : Below w.heap.size w W1 := by rw [hW1]; exact (s1.push (u64O 0)).below
  have hVb : w.heap.size ≤ V := by rw [hV]; exact s1.below.size
  have hVW : W1.heap[V]? = some (u64O 0) := by rw [hV, hW1]; exact World.alloc_heap_new s1.w _
  have hVl := (Array.getElem?_eq_some_iff.1 hVW).1
  rw [← hW1, ← hV]
  refine (read_ok 50 V g n L k dcap da A p W1 (fun w' => But V W1.heap.size W1 w' ∧ w'.heap[V]? = some (u64O (beval part))) (enters_of Try.func50 (by kernel_rfl) rfl) (heap_below HH.out b1) hn hL HSL.out (fun s => ?_) (fun w' hq => ?_)).mono ?_
  · have := uintC_any V (dcap - n) A part s.w (heap_below hVW s.below) (src_below (src_below (HA.out.src hVb) b1) s.below) (by omega)
    rw [hpl] at this
    refine this.mono ?_
    rintro e w' ⟨rfl, hb, ho⟩
    exact ⟨rfl, (But.of_below s.below).trans (hb.mono s.below.size), ho⟩
  · exact (hq.1.block g (by have := b1.size; omega) (by omega)).trans (heap_below HH.out b1)
  · rintro e _ ⟨rfl, w2, ⟨hb, ho⟩, rfl⟩
    have hg2 := (hb.block g (by have := b1.size; omega) (by omega)).trans (heap_below HH.out b1)
    have cV : (w2.setCell ⟨g, 0, none⟩ (.int .i64 (n + k : Nat))).cell? ⟨V, 0, none⟩ = some (.int .u64 (beval part)) := by
      rw [cell_of ((Below.heap_setCell _ _ _ _ (by simp only; omega)).trans ho)]; rfl
    have hfin : Hid (But g w.heap.size w (w2.setCell ⟨g, 0, none⟩ (.int .i64 (n + k : Nat))) ∧ (w2.setCell ⟨g, 0, none⟩ (.int .i64 (n + k : Nat))).heap[g]? = some (rdO (n + k) L da dcap 0 p)) :=
      Lib.hid ⟨((But.of_below b1).trans (But.of_below ((hb.mono b1.size).below hVb))).store 0 _, rd_set0 hg2 (n + k)⟩
    clear hb ho hg2 hVW hW1 hV
    generalize w2.setCell ⟨g, 0, none⟩ (.int .i64 (n + k : Nat)) = w3 at *
    go_wp2
    go_ret
    exact ⟨rfl, hfin.out⟩
end
end Go.Proofs.Ytefonhnidkfbgaa

/- bytes.Clone, New, Bytes; Length and Expect of a reader that is not ready. -/
namespace Go.Proofs.Ytefonhnidkfbgaa
open Go.RowKit
set_option linter.unusedVariables false
set_option linter.unusedSimpArgs false

set_option maxRecDepth 100000 in
theorem bclone_any (l : List Int) (a : Option Addr) (cap : Nat) (w : World) (hb : BytesIn w a l cap) (hm : l.length ≤ 1000000000) : Calls Try.prog 28 #[.slice a l.length cap] w (MakesR 5 (l.map (Value.int .u8)) w) := by
  cases a with
  | none =>
    obtain rfl : l = [] := List.eq_nil_of_length_eq_zero (hb.nil2 rfl rfl).1
    obtain rfl : cap = 0 := hb.nil rfl
    have hq := eq_nil8 none 0 0
    clear hb hm
    go_enter Try.func28, Try.ntmps28
    go_wp2
    go_ret
    exact ⟨_, rfl, ⟨w, Below.refl _ _, World.ownsRow_nil w w.heap.size 5 1⟩, rfl⟩
  | some ad =>
    obtain ⟨E⟩ := elem_of (P := Try.prog) (t := 22) (e := 5) (z := .int .u8 0) (n := 1) Try.underlying22 (by kernel_rfl) rfl (by omega)
    obtain ⟨so, hso⟩ := own_empty w
    have HSO := Lib.hid hso
    have HSRC := Lib.hid (hb.below so.below).news
    have HML := Lib.hid (show l.length = (l.map (Value.int .u8)).length from (List.length_map _).symm)
    have HLN := Lib.hid (show l.length ≤ 1000000000 from hm)
    have hq := eq_nil8 (some ad) l.length cap
    clear hso hb hm
    go_enter Try.func28, Try.ntmps28
    go_wp2_with (rw [HSO.out]; refine wpList_append_src E so (l.map (Value.int .u8)) (.tmp 5) (.tmp 6) rfl rfl rfl (some ad) l.length cap HML.out rfl (fun h => by cases h) HSRC.out (one_bytes _) (by rw [List.length_nil, List.length_map]; have := HLN.out; omega) ?_; intro v' s')
    go_ret
    exact ⟨_, rfl, s', rfl⟩

/-- A new reader of a copy of the bytes D. -/
def MakesRd (D : List Int) (w : World) (e : Ending) (w' : World) : Prop := ∃ g da dcap, e = .returned (.pointer (some ⟨g, 0, none⟩)) ∧ w.heap.size ≤ g ∧ Below w.heap.size w w' ∧ w'.heap[g]? = some (rdO 0 D.length da dcap 0 0) ∧ BytesIn w' da D dcap ∧ ∀ b o, da = some ⟨b, o, none⟩ → w.heap.size ≤ b ∧ b ≠ g

theorem own_setCell6 {w : World} {base b : Nat} {e : TypeId} {v : Value} {n : Nat} {xs : List Value} (h : w.ownsRow base e 1 v n xs) (hb : b < base) (i : Nat) (u : Value) : (w.setCell ⟨b, i, none⟩ u).ownsRow base e 1 v n xs :=
  ⟨h.1, h.2.imp id fun ⟨g, cap, cur, h1, h2, h3, h4⟩ => ⟨g, cap, cur, h1, h2, (Below.heap_setCell _ _ _ _ (by simp only; omega)).trans h3, h4⟩⟩

set_option maxRecDepth 100000 in
theorem wnew_any (l : List Int) (a : Option Addr) (cap : Nat) (w : World) (hb : BytesIn w a l cap) (hm : l.length ≤ 1000000000) : Calls Try.prog 10 #[.slice a l.length cap] w (MakesRd l w) := by
  have hc := bclone_any l a cap w hb hm
  obtain ⟨L, hL⟩ : ∃ L, l.length = L := ⟨_, rfl⟩
  have HL := Lib.hid hL
  rw [hL] at hc ⊢
  have hLb : L ≤ 9223372036854775807 := by omega
  clear hb hL
  go_enter Try.func10, Try.ntmps10
  go_wp2_with fail
  refine hc.mono ?_
  rintro e _ ⟨v, rfl, s, rfl⟩
  clear hc
  have hlt := s.own.lt
  obtain ⟨da, dcap, rfl, hD⟩ := s.bytesN HL.out
  have HD := Lib.hid hD
  have HLT := Lib.hid hlt
  clear hD hlt
  go_wp2
  go_ret
  have hb := (Below.refl s.w.heap.size s.w).alloc (Nat.le_refl _) (rdO 0 L da dcap 0 0)
  refine ⟨s.w.heap.size, da, dcap, rfl, s.below.size, s.below.alloc s.below.size _, by rw [HL.out]; exact World.alloc_heap_new s.w _, HD.out.below hb, ?_⟩
  rintro b o rfl
  have := HLT.out b (by simp [Value.ownBlock])
  omega

abbrev sliO (v : Value) : Obj := .cells #[v] 22 (0, 0)
/-- What the function value of Bytes does: a copy of the bytes lies behind the captured variable. -/
def Copied (V : Nat) (l : List Int) (w w' : World) : Prop := But V w.heap.size w w' ∧ ∃ v, w'.heap[V]? = some (sliO v) ∧ w'.ownsRow w.heap.size 5 1 v l.length (l.map (Value.int .u8))

set_option maxRecDepth 100000 in
theorem bytesC_any (V cap : Nat) (A : Option Addr) (l : List Int) (v0 : Value) (w : World) (hV : w.heap[V]? = some (sliO v0)) (hb : BytesIn w A l cap) (hl : l.length ≤ 1000000000) :
    Calls Try.prog 46 #[.slice A l.length cap, .pointer (some ⟨V, 0, none⟩)] w (fun e w' => e = .returned (.tuple #[]) ∧ Copied V l w w') := by
  have hc := bclone_any l A cap w hb hl
  have hlt := (Array.getElem?_eq_some_iff.1 hV).1
  have HV := Lib.hid hV
  have HLL := Lib.hid (show (l.map (Value.int .u8)).length = l.length from List.length_map _)
  clear hV hb
  go_enter Try.func46, Try.ntmps46
  go_wp2_with fail
  refine hc.mono ?_
  rintro e _ ⟨v, rfl, s, rfl⟩
  clear hc
  have hV1 := heap_below HV.out s.below
  have cV : s.w.cell? ⟨V, 0, none⟩ = some v0 := by rw [cell_of hV1]; rfl
  have fV := free_of hV1 0
  have hown := s.own
  rw [HLL.out] at hown
  have hfin : Hid (Copied V l w (s.w.setCell ⟨V, 0, none⟩ v)) := Lib.hid ⟨(But.of_below s.below).store 0 v, v, by rw [heap_setCell_same _ _ _ _ _ _ hV1]; rfl, own_setCell6 hown hlt 0 v⟩
  obtain ⟨a, c, rfl, _⟩ := s.view l.length HLL.out
  clear hV1 hown
  go_wp2
  go_end0
  exact ⟨rfl, hfin.out⟩

/-- It returns a new slice of bytes; of what was there only block g has changed: it holds o now. -/
def MakesPuts (g : Nat) (o : Obj) (l : List Int) (w : World) (e : Ending) (w' : World) : Prop := ∃ v, e = .returned v ∧ But g w.heap.size w w' ∧ w'.heap[g]? = some o ∧ w'.ownsRow w.heap.size 5 1 v l.length (l.map (Value.int .u8))

theorem wbytes_nil (k : Int) (w : World) : Calls Try.prog 31 #[.pointer none, .int .i64 k] w (Gives (.slice none 0 0) w) := by
  by_cases hk : k < 0
  · have ha := at_nil
    have hf := fail_nil
    have hd : decide (k < 0) = true := decide_eq_true hk
    clear hk
    go_enter Try.func31, Try.ntmps31
    go_wp2_with fail
    refine (HeldW.call (s := HeldW.start w) (gives_same (ha _))).mono ?_
    rintro e _ ⟨rfl, s2, rfl⟩
    go_wp2_with fail
    refine (HeldW.call (s := s2) (hf _ _ _)).mono ?_
    rintro e _ ⟨rfl, s3, rfl⟩
    go_wp2
    go_ret
    exact ⟨rfl, s3.below⟩
  · have hd : decide (k < 0) = false := decide_eq_false hk
    have hr := read_nil
    clear hk
    go_enter Try.func31, Try.ntmps31
    go_wp2_with fail
    refine (HeldW.call (s := (HeldW.start w).push (sliO (.slice none 0 0))) (hr _ _ _)).mono ?_
    rintro e _ ⟨rfl, s2, rfl⟩
    have cV : s2.w.cell? ⟨w.heap.size, 0, none⟩ = some (.slice none 0 0) := by rw [cell_of (s2.blocks (_, _) List.mem_cons_self)]; rfl
    clear hr
    go_wp2
    go_ret
    exact ⟨rfl, s2.below⟩

section
variable (g n L dcap : Nat) (da : Option Addr) (w : World)
theorem bytes_not (c p k : Int) (h : w.heap[g]? = some (rdO n L da dcap c p)) (hc : c ≠ 0) : Calls Try.prog 31 #[.pointer (some ⟨g, 0, none⟩), .int .i64 k] w (Gives (.slice none 0 0) w) := by
  have hr := fun (W : World) (H : W.heap[g]? = some (rdO n L da dcap c p)) u => read_not g n L dcap da c p k u W H hc
  have ha := fun (W : World) (H : W.heap[g]? = some (rdO n L da dcap c p)) => at_any g n L dcap da c p W H
  have hf := fun (W : World) (H : W.heap[g]? = some (rdO n L da dcap c p)) => fail_no g n L dcap da c p 2 n W H hc
  have HH := Lib.hid h
  clear h
  by_cases hk : k < 0
  · have hd : decide (k < 0) = true := decide_eq_true hk
    clear hk
    go_enter Try.func31, Try.ntmps31
    go_wp2_with fail
    refine (HeldW.call (s := HeldW.start w) (gives_same (ha _ HH.out))).mono ?_
    rintro e _ ⟨rfl, s2, rfl⟩
    go_wp2_with fail
    refine (HeldW.call (s := s2) (hf _ (heap_below HH.out s2.below))).mono ?_
    rintro e _ ⟨rfl, s3, rfl⟩
    go_wp2
    go_ret
    exact ⟨rfl, s3.below⟩
  · have hd : decide (k < 0) = false := decide_eq_false hk
    clear hk
    go_enter Try.func31, Try.ntmps31
    go_wp2_with fail
    refine (HeldW.call (s := (HeldW.start w).push (sliO (.slice none 0 0))) (hr _ (heap_below HH.out ((HeldW.start w).push (sliO (.slice none 0 0))).below) _)).mono ?_
    rintro e _ ⟨rfl, s2, rfl⟩
    have cV : s2.w.cell? ⟨w.heap.size, 0, none⟩ = some (.slice none 0 0) := by rw [cell_of (s2.blocks (_, _) List.mem_cons_self)]; rfl
    clear hr
    go_wp2
    go_ret
    exact ⟨rfl, s2.below⟩

theorem bytes_range (p k : Int) (h : w.heap[g]? = some (rdO n L da dcap 0 p)) (hk : k < 0) : Calls Try.prog 31 #[.pointer (some ⟨g, 0, none⟩), .int .i64 k] w (Puts g (rdO n L da dcap 2 n) (.slice none 0 0) w) := by
  have ha := fun (W : World) (H : W.heap[g]? = some (rdO n L da dcap 0 p)) => at_any g n L dcap da 0 p W H
  have hf := fun (W : World) (H : W.heap[g]? = some (rdO n L da dcap 0 p)) => fail_any g n L dcap da p 2 n W H (by omega)
  have hd : decide (k < 0) = true := decide_eq_true hk
  have HH := Lib.hid h
  clear h hk
  go_enter Try.func31, Try.ntmps31
  go_wp2_with fail
  refine (HeldW.call (s := HeldW.start w) (gives_same (ha _ HH.out))).mono ?_
  rintro e _ ⟨rfl, s2, rfl⟩
  go_wp2_with fail
  refine (hf _ (heap_below HH.out s2.below)).mono ?_
  rintro e w3 ⟨rfl, hb, ho⟩
  go_wp2
  go_ret
  exact ⟨rfl, (But.of_below s2.below).trans (hb.mono s2.below.size), ho⟩

theorem bytes_short (p k : Int) (h : w.heap[g]? = some (rdO n L da dcap 0 p)) (hk : 0 ≤ k) (hn : n ≤ L) (hL : L ≤ 9223372036854775807) (hs : (L : Int) - n < k) : Calls Try.prog 31 #[.pointer (some ⟨g, 0, none⟩), .int .i64 k] w (Puts g (rdO n L da dcap 8 L) (.slice none 0 0) w) := by
  have hr := fun (W : World) (H : W.heap[g]? = some (rdO n L da dcap 0 p)) u => read_short g n L dcap da p k u W H hn hL hs
  have hd : decide (k < 0) = false := decide_eq_false (by omega)
  have HH := Lib.hid h
  have hlt := (Array.getElem?_eq_some_iff.1 h).1
  clear h hk hn hL hs
  go_enter Try.func31, Try.ntmps31
  go_wp2_with fail
  refine (hr _ (heap_below HH.out ((HeldW.start w).push (sliO (.slice none 0 0))).below) _).mono ?_
  rintro e w3 ⟨rfl, hb, ho⟩
  have cV : w3.cell? ⟨w.heap.size, 0, none⟩ = some (.slice none 0 0) := by
    rw [cell_of ((hb.block w.heap.size (by simp) (by omega)).trans (World.alloc_heap_new w _))]; rfl
  clear hr hlt
  go_wp2
  go_ret
  exact ⟨rfl, (But.of_below ((HeldW.start w).push (sliO (.slice none 0 0))).below).trans (hb.mono ((HeldW.start w).push (sliO (.slice none 0 0))).below.size), ho⟩

theorem bytes_ok (D : List Int) (p : Int) (k : Nat) (h : w.heap[g]? = some (rdO n D.length da dcap 0 p)) (hn : n + k ≤ D.length) (hD : BytesIn w da D dcap) (hk : k ≤ 1000000000) :
    Calls Try.prog 31 #[.pointer (some ⟨g, 0, none⟩), .int .i64 k] w (MakesPuts g (rdO (n + k) D.length da dcap 0 p) ((D.drop n).take k) w) := by
  have hd : decide ((k : Int) < 0) = false := decide_eq_false (by omega)
  have hL : D.length ≤ 9223372036854775807 := Nat.le_trans hD.len hD.capb
  obtain ⟨A, hsl, hA⟩ := cut_mid hD n (n + k) (by omega) hn
  rw [show n + k - n = k by omega] at hsl hA
  rw [show ((n + k : Nat) : Int) = (n : Int) + (k : Int) by omega] at hsl
  have hpl : ((D.drop n).take k).length = k := by rw [List.length_take, List.length_drop]; omega
  generalize (D.drop n).take k = part at hA hpl ⊢
  generalize D.length = L at *
  have hlt := (Array.getElem?_eq_some_iff.1 h).1
  have HH := Lib.hid h
  have HA := Lib.hid hA
  have HSL := Lib.hid hsl
  have HPL := Lib.hid hpl
  clear h hA hsl hD hpl
  go_enter Try.func31, Try.ntmps31
  go_wp2_with fail
  obtain ⟨V, hV⟩ : ∃ V, V = w.heap.size := ⟨_, rfl⟩
  obtain ⟨W1, hW1⟩ : ∃ W1, W1 = w.alloc (sliO (.slice none 0 0)) := ⟨_, rfl⟩
  have b1 : Below w.heap.size w W1 := by rw [hW1]; exact ((HeldW.start w).push (sliO (.slice none 0 0))).below
  have hVb : w.heap.size ≤ V := by omega
  have hVW : W1.heap[V]? = some (sliO (.slice none 0 0)) := by rw [hV, hW1]; exact World.alloc_heap_new w _
  have hVl := (Array.getElem?_eq_some_iff.1 hVW).1
  rw [← hW1, ← hV]
  refine (read_ok 46 V g n L k dcap da A p W1 (fun w' => Copied V part W1 w') (enters_of Try.func46 (by kernel_rfl) rfl) (heap_below HH.out b1) hn hL HSL.out (fun s => ?_) (fun w' hq => ?_)).mono ?_
  · have := bytesC_any V (dcap - n) A part _ s.w (heap_below hVW s.below) ((HA.out.below b1).W s) (by rw [HPL.out]; exact hk)
    rw [HPL.out] at this
    refine this.mono ?_
    rintro e w' ⟨rfl, hb, v, ho, hr⟩
    exact ⟨rfl, (But.of_below s.below).trans (hb.mono s.below.size), v, ho, hr.1, hr.2.imp id fun ⟨g, cap, cur, h1, h2, h3⟩ => ⟨g, cap, cur, h1, Nat.le_trans s.below.size h2, h3⟩⟩
  · exact (hq.1.block g (by have := b1.size; omega) (by omega)).trans (heap_below HH.out b1)
  · rintro e _ ⟨rfl, w2, ⟨hb, v, ho, hr⟩, rfl⟩
    have hg2 := (hb.block g (by have := b1.size; omega) (by omega)).trans (heap_below HH.out b1)
    have cV : (w2.setCell ⟨g, 0, none⟩ (.int .i64 (n + k : Nat))).cell? ⟨V, 0, none⟩ = some v := by
      rw [cell_of ((Below.heap_setCell _ _ _ _ (by simp only; omega)).trans ho)]; rfl
    have hr2 := own_setCell6 hr (by have := b1.size; omega : g < W1.heap.size) 0 (.int .i64 (n + k : Nat))
    have hr3 : (w2.setCell ⟨g, 0, none⟩ (.int .i64 (n + k : Nat))).ownsRow w.heap.size 5 1 v part.length (part.map (Value.int .u8)) := ⟨hr2.1, hr2.2.imp id fun ⟨g, cap, cur, h1, h2, h3⟩ => ⟨g, cap, cur, h1, Nat.le_trans b1.size h2, h3⟩⟩
    have hfin : Hid (MakesPuts g (rdO (n + k) L da dcap 0 p) part w (.returned v) (w2.setCell ⟨g, 0, none⟩ (.int .i64 (n + k : Nat)))) :=
      Lib.hid ⟨v, rfl, ((But.of_below b1).trans (But.of_below ((hb.mono b1.size).below hVb))).store 0 _, rd_set0 hg2 (n + k), hr3⟩
    clear hb ho hg2 hVW hW1 hV hr hr2 hr3
    generalize w2.setCell ⟨g, 0, none⟩ (.int .i64 (n + k : Nat)) = w3 at *
    go_wp2
    go_ret
    exact hfin.out
end

theorem length_nil (w : World) : Calls Try.prog 30 #[.pointer none] w (Gives (.int .i64 0) w) := by
  have ha := at_nil
  have hu := uint_nil 8
  go_enter Try.func30, Try.ntmps30
  go_wp2_with fail
  refine (HeldW.call (s := HeldW.start w) (gives_same (ha _))).mono ?_
  rintro e _ ⟨rfl, s1, rfl⟩
  go_wp2_with fail
  refine (HeldW.call (s := s1) (hu _)).mono ?_
  rintro e _ ⟨rfl, s2, rfl⟩
  go_wp2
  go_ret
  exact ⟨rfl, s2.below⟩
theorem length_not (g n L dcap : Nat) (da : Option Addr) (w : World) (c p : Int) (h : w.heap[g]? = some (rdO n L da dcap c p)) (hc : c ≠ 0) : Calls Try.prog 30 #[.pointer (some ⟨g, 0, none⟩)] w (Gives (.int .i64 0) w) := by
  have ha := fun (W : World) (H : W.heap[g]? = some (rdO n L da dcap c p)) => at_any g n L dcap da c p W H
  have hu := fun (W : World) (H : W.heap[g]? = some (rdO n L da dcap c p)) => uint_not g n L dcap da W c p 8 H hc
  have HH := Lib.hid h
  clear h
  go_enter Try.func30, Try.ntmps30
  go_wp2_with fail
  refine (HeldW.call (s := HeldW.start w) (gives_same (ha _ HH.out))).mono ?_
  rintro e _ ⟨rfl, s1, rfl⟩
  go_wp2_with fail
  refine (HeldW.call (s := s1) (hu _ (heap_below HH.out s1.below))).mono ?_
  rintro e _ ⟨rfl, s2, rfl⟩
  go_wp2
  go_ret
  exact ⟨rfl, s2.below⟩
theorem expect_nil (v : Value) (code : Int) (w : World) : Calls Try.prog 29 #[.pointer none, v, .int .i64 code] w (Gives (.bool false) w) := by
  have hr := ready_nil w
  go_enter Try.func29, Try.ntmps29
  go_wp2_with fail
  refine (HeldW.call (s := HeldW.start w) hr).mono ?_
  rintro e _ ⟨rfl, s1, rfl⟩
  go_wp2
  go_ret
  exact ⟨rfl, s1.below⟩
theorem expect_not (g n L dcap : Nat) (da : Option Addr) (w : World) (v : Value) (c p code : Int) (h : w.heap[g]? = some (rdO n L da dcap c p)) (hc : c ≠ 0) : Calls Try.prog 29 #[.pointer (some ⟨g, 0, none⟩), v, .int .i64 code] w (Gives (.bool false) w) := by
  have hr := ready_any g n L dcap da c p w h
  rw [decide_eq_false hc] at hr
  clear h hc
  go_enter Try.func29, Try.ntmps29
  go_wp2_with fail
  refine (HeldW.call (s := HeldW.start w) (gives_same hr)).mono ?_
  rintro e _ ⟨rfl, s1, rfl⟩
  go_wp2
  go_ret
  exact ⟨rfl, s1.below⟩
end Go.Proofs.Ytefonhnidkfbgaa
