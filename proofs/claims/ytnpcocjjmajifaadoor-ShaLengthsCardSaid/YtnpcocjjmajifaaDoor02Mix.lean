/- mix: a block is mixed into the state of a hash. -/
import Derived.Test.YtnpcocjjmajifaaDoor02Sched
namespace Go.Proofs.YtnpcocjjmajifaaDoor
open Go.RowKit
set_option linter.unusedVariables false

abbrev hashO (v : V8) (r : List Int) (n : Int) : Obj := .cells (hashA v r n) 54 (0, 0)

/-- The cells of the state. -/
theorem cellsV {w0 : World} {h : Nat} {bs : List (Nat × Obj)} (g : Nat) (v : V8) (r : List Int) (n : Int) (hm : (g, hashO v r n) ∈ bs) :
    (∀ s : HeldX w0 h bs, s.w.cell? ⟨g, 0, none⟩ = some (.int .u32 v.a)) ∧ (∀ s : HeldX w0 h bs, s.w.cell? ⟨g, 1, none⟩ = some (.int .u32 v.b)) ∧ (∀ s : HeldX w0 h bs, s.w.cell? ⟨g, 2, none⟩ = some (.int .u32 v.c)) ∧ (∀ s : HeldX w0 h bs, s.w.cell? ⟨g, 3, none⟩ = some (.int .u32 v.d)) ∧
    (∀ s : HeldX w0 h bs, s.w.cell? ⟨g, 4, none⟩ = some (.int .u32 v.e)) ∧ (∀ s : HeldX w0 h bs, s.w.cell? ⟨g, 5, none⟩ = some (.int .u32 v.f)) ∧ (∀ s : HeldX w0 h bs, s.w.cell? ⟨g, 6, none⟩ = some (.int .u32 v.g)) ∧ (∀ s : HeldX w0 h bs, s.w.cell? ⟨g, 7, none⟩ = some (.int .u32 v.h)) := by
  refine ⟨?_, ?_, ?_, ?_, ?_, ?_, ?_, ?_⟩ <;> (intro s; rw [cell_of (s.blocks _ hm)]; rfl)

/-- The table of the constants lies there. -/
def Roots (w : World) : Prop := ∀ i, i < 64 → w.cell? ⟨0, i, none⟩ = some (.int .u32 (rootsL[i]?.getD 0))
theorem Roots.X {w : World} {h : Nat} {bs : List (Nat × Obj)} (hr : Roots w) (hh : h ≠ 0) (s : HeldX w h bs) : Roots s.w := fun i hi => by
  have hc := hr i hi
  have hb := World.block_lt_of_cell? w _ hc
  rw [← hc]
  unfold World.cell?
  rw [s.but.block 0 hb (by omega)]
theorem Roots.below {w w' : World} (hr : Roots w) (hb : Below w.heap.size w w') : Roots w' := fun i hi => by
  rw [← hr i hi]; exact hb.cell (p := ⟨0, i, none⟩) (World.block_lt_of_cell? w _ (hr i hi))
theorem Roots.pos {w : World} (hr : Roots w) : 0 < w.heap.size := World.block_lt_of_cell? w _ (hr 0 (by omega))

/-- One of the 64 steps. -/
def tOne (v : V8) (k w : Int) : Int :=
  (v.h + bits .xor .u32 (bits .xor .u32 (ror v.e 6) (ror v.e 11)) (ror v.e 25) + bits .xor .u32 (bits .and .u32 v.e v.f) (bits .and .u32 (bits .xor .u32 4294967295 v.e) v.g) + k + w) % 4294967296
def tTwo (v : V8) : Int :=
  (bits .xor .u32 (bits .xor .u32 (ror v.a 2) (ror v.a 13)) (ror v.a 22) + bits .xor .u32 (bits .xor .u32 (bits .and .u32 v.a v.b) (bits .and .u32 v.a v.c)) (bits .and .u32 v.b v.c)) % 4294967296
def rnd (v : V8) (k w : Int) : V8 := ⟨(tOne v k w + tTwo v) % 4294967296, v.a, v.b, v.c, (v.d + tOne v k w) % 4294967296, v.e, v.f, v.g⟩
def rounds (W : List Int) (v : V8) : Nat → V8
  | 0 => v
  | k + 1 => rnd (rounds W v k) (rootsL[k]?.getD 0) (W[k]?.getD 0)
theorem allOnes : (if IntKind.u32.signed = true then -1 else IntKind.u32.max) = 4294967295 := by decide +kernel
/-- The words are added to those of the state, the first k of them. -/
def addK (v u : V8) (k : Nat) : V8 :=
  ⟨if 0 < k then (v.a + u.a) % 4294967296 else v.a, if 1 < k then (v.b + u.b) % 4294967296 else v.b, if 2 < k then (v.c + u.c) % 4294967296 else v.c, if 3 < k then (v.d + u.d) % 4294967296 else v.d,
   if 4 < k then (v.e + u.e) % 4294967296 else v.e, if 5 < k then (v.f + u.f) % 4294967296 else v.f, if 6 < k then (v.g + u.g) % 4294967296 else v.g, if 7 < k then (v.h + u.h) % 4294967296 else v.h⟩
/-- The state behind a block with the words W. -/
def mixW (v : V8) (W : List Int) : V8 := addK v (rounds W v 64) 8

def V8.at (v : V8) (k : Nat) : Int := v.list[k]?.getD 0
theorem lt8 {k : Nat} (h : k < 8) : k = 0 ∨ k = 1 ∨ k = 2 ∨ k = 3 ∨ k = 4 ∨ k = 5 ∨ k = 6 ∨ k = 7 := by omega
theorem index8 (u : V8) {k : Nat} (hk : k < 8) (w : World) : (Instr.index 49 (.agg #[.int .u32 u.a, .int .u32 u.b, .int .u32 u.c, .int .u32 u.d, .int .u32 u.e, .int .u32 u.f, .int .u32 u.g, .int .u32 u.h]) (.int .i64 (k : Int))).run Tryd.prog w = .ok (.int .u32 (u.at k)) w := by
  rcases lt8 hk with rfl | rfl | rfl | rfl | rfl | rfl | rfl | rfl <;> kernel_rfl
theorem hash_at (v : V8) (r : List Int) (n : Int) {k : Nat} (hk : k < 8) : (hashA v r n)[k]? = some (.int .u32 (v.at k)) := by
  rcases lt8 hk with rfl | rfl | rfl | rfl | rfl | rfl | rfl | rfl <;> rfl
theorem add_at (v u : V8) {k : Nat} (hk : k < 8) : (addK v u k).at k = v.at k := by
  rcases lt8 hk with rfl | rfl | rfl | rfl | rfl | rfl | rfl | rfl <;> rfl
theorem add_set (v u : V8) (r : List Int) (n : Int) {k : Nat} (hk : k < 8) : (hashA (addK v u k) r n).setIfInBounds k (.int .u32 ((v.at k + u.at k) % 4294967296)) = hashA (addK v u (k + 1)) r n := by
  rcases lt8 hk with rfl | rfl | rfl | rfl | rfl | rfl | rfl | rfl <;> rfl

set_option maxRecDepth 100000 in
set_option maxHeartbeats 1000000 in
theorem mix_any (h : Nat) (v : V8) (r : List Int) (n : Int) (b o cap : Nat) (f : Nat → Int) (hcap : 64 ≤ cap) (hcap2 : cap ≤ 9223372036854775807) (w : World) (hf : ∀ i, i < 64 → w.cell? ⟨b, o + i, none⟩ = some (.int .u8 (f i)))
    (ho : w.heap[h]? = some (hashO v r n)) (hh : h ≠ 0) (hR : Roots w) :
    Calls Tryd.prog 34 #[.pointer (some ⟨h, 0, none⟩), .slice (some ⟨b, o, none⟩) 64 cap] w (Puts h (hashO (mixW v (wl f 64)) r n) (.tuple #[]) w) := by
  have hsc := sched_any b o cap f hcap hcap2 w hf
  have hsz : (rowW (wl f 64)).size = 64 := rowW_size _ (Nat.le_of_eq (wl_length f 64))
  have hlen := wl_length f 64
  have hone := rowW_one (wl f 64)
  generalize wl f 64 = W at hsc hsz hone hlen ⊢
  have hinf : (Tryd.prog.info? 69).map (·.size) = some (rowW W).size := by rw [hsz]; kernel_rfl
  go_enter Tryd.func34, Tryd.ntmps34
  go_wp2_with fail
  refine (HeldX.call (s := HeldX.start ho) hsc).mono ?_
  rintro e _ ⟨rfl, s1, rfl⟩
  have hn := heap_new s1.w (rowO []) rfl
  have hsr : (rowW []).size = (rowW W).size := by rw [hsz]; rfl
  go_wp2_with (refine wpList_store_rowTo rfl 69 (.tmp 4) (.tmp 19) rfl rfl s1.w.heap.size (rowW W) rfl rfl 69 (rowW []) hn hinf hsr hone ?_)
  rw [World.setRow_alloc_new]
  obtain ⟨s2, hs2⟩ : ∃ s2 : HeldX w h [(s1.w.heap.size, rowO W), (h, hashO v r n)], s1.w.alloc (rowO W) = s2.w := ⟨s1.push _, rfl⟩
  rw [hs2]
  have hB : w.heap.size ≤ s1.w.heap.size := s1.but.size
  have hhw := (Array.getElem?_eq_some_iff.1 ho).1
  clear hs2 hn hsc hinf hsr hone ho hf
  generalize s1.w.heap.size = B at s2 hB ⊢
  clear s1
  have hcs := cellsV (w0 := w) (h := h) (bs := [(B, rowO W), (h, hashO v r n)]) h v r n (by simp)
  have HC := Lib.hid hcs
  obtain ⟨c0, c1, c2, c3, c4, c5, c6, c7⟩ := hcs
  have HL := Lib.hid hlen
  have HS := Lib.hid hsz
  have HR := Lib.hid hR
  clear hlen hsz hR
  refine wp_region_X s2 (by kernel_rfl) (by kernel_rfl) (fun hne => ?_)
  repeat (go_big_quiet_step (fail))
  refine wpQuiet_nil ?_
  rintro _ ⟨s3, rfl⟩
  clear c0 c1 c2 c3 c4 c5 c6 c7 s2 hne
  go_wp2
  go_loopw [5, 6, 7, 8, 9, 10, 11, 12, 13, 14, 15, 52] (fun xa xb xc xd xe xf xg xh _ _ _ i wr => ∃ k : Nat, k ≤ 64 ∧ i = .int .i64 k ∧ ∃ u : V8, Hid (u = rounds W v k) ∧ xa = .int .u32 u.a ∧ xb = .int .u32 u.b ∧ xc = .int .u32 u.c ∧ xd = .int .u32 u.d ∧ xe = .int .u32 u.e ∧ xf = .int .u32 u.f ∧ xg = .int .u32 u.g ∧ xh = .int .u32 u.h ∧
      ∃ s : HeldX w h [(B, rowO W), (h, hashO v r n)], wr = s.w) (fun _ _ _ _ _ _ _ _ _ _ _ i _ => 64 - (intOf i).toNat)
  case atStart => exact ⟨0, by omega, rfl, v, rfl, rfl, rfl, rfl, rfl, rfl, rfl, rfl, rfl, s3, rfl⟩
  case round =>
    clear s3
    obtain ⟨k, hk, rfl, u, hu, rfl, rfl, rfl, rfl, rfl, rfl, rfl, rfl, s, rfl⟩ := hrel
    by_cases hlt : k < 64
    · have cr : ∀ s : HeldX w h [(B, rowO W), (h, hashO v r n)], s.w.cell? ⟨0, k, none⟩ = some (.int .u32 (rootsL[k]?.getD 0)) := fun s => HR.out.X hh s k hlt
      have cw : ∀ s : HeldX w h [(B, rowO W), (h, hashO v r n)], s.w.cell? ⟨B, k, none⟩ = some (.int .u32 (W[k]?.getD 0)) := fun s => by
        rw [cell_of (s.blocks (_, _) List.mem_cons_self), rowW_get W k (by rw [HL.out]; exact hlt)]; rfl
      go_wp2
      refine wp_region_X s (by kernel_rfl) (by kernel_rfl) (fun hne => ?_)
      repeat (go_big_quiet_step ((go_at_call 40; exact HeldX.call (gives_same (right_any _ _ (by unfold Amt; simp) _)))))
      refine wpQuiet_nil ?_
      rintro _ ⟨s4, rfl⟩
      clear s hne cr cw
      go_wp2_with (go_at_call 40; refine (right_any _ _ (by unfold Amt; simp) _).mono ?_; rintro e w' ⟨rfl, rfl⟩)
      rw [allOnes]
      go_roundw
      case rel => exact ⟨k + 1, by omega, by go_num, rnd u (rootsL[k]?.getD 0) (W[k]?.getD 0), Lib.hid (by rw [hu.out]; rfl), rfl, rfl, rfl, rfl, rfl, rfl, rfl, rfl, s4, rfl⟩
      case measure => simp [intOf]; omega
    · obtain rfl : k = 64 := by omega
      go_wp2
      rw [show ((64 : Nat) : Int) = 64 from rfl]
      go_loopw [16, 17, 124] (fun _ _ i wr => ∃ k : Nat, k ≤ 8 ∧ i = .int .i64 k ∧ ∃ s : HeldX w h [(h, hashO (addK v u k) r n)], wr = s.w) (fun _ _ i _ => 8 - (intOf i).toNat)
      case atStart => exact ⟨0, by omega, rfl, s.sub (by simp [addK]), rfl⟩
      case round =>
        clear s
        obtain ⟨k, hk, rfl, s, rfl⟩ := hrel
        by_cases hlt : k < 8
        · have hc := s.blocks (_, _) List.mem_cons_self
          have c0 : ∀ s : HeldX w h [(h, hashO (addK v u k) r n)], s.w.cell? ⟨h, k, none⟩ = some (.int .u32 (v.at k)) := fun s => by
            rw [cell_of (s.blocks (_, _) List.mem_cons_self), hash_at _ _ _ hlt, add_at _ _ hlt]
          have hix := index8 u hlt
          clear HC hc
          go_wp2
          clear hix
          refine wp_region_X_tail 9 s (by kernel_rfl) (by kernel_rfl) (fun hne => ?_)
          simp only [List.take_succ_cons, List.take_zero, List.drop_succ_cons, List.drop_zero]
          repeat (go_big_quiet_step (fail))
          refine wpQuiet_nil ?_
          rintro _ ⟨s2, rfl⟩
          have hcell := c0 s2
          have hfree := free_of (s2.blocks (_, _) List.mem_cons_self) k
          clear c0 s hne
          go_wp2
          go_roundw
          case rel => exact ⟨k + 1, by omega, by go_num, s2.store (.inl rfl) (by simp) (add_set v u r n hlt), rfl⟩
          case measure => simp [intOf]; omega
        · obtain rfl : k = 8 := by omega
          go_wp2
          go_end0
          refine ⟨rfl, s.but, ?_⟩
          have hb : s.w.heap[h]? = some (hashO (addK v u 8) r n) := s.blocks (_, _) List.mem_cons_self
          rw [hb, hu.out]
          rfl
end Go.Proofs.YtnpcocjjmajifaaDoor
