import Derived.WalkKit
import Derived.StillTailTactics
import Derived.Test.YtdedfjkenbaebaaDoorE08a2
import Derived.Great.BuildSlice
import Derived.Test.YtdedfjkenbaebaaDoorE08a1
/- Plain mathematics for package sha. -/
namespace Go.Proofs.YtdedfjkenbaebaaDoor
open Go.RowKit
set_option linter.unusedVariables false

/-- A row of 64 words, the first of which are known. -/
def rowW (l : List Int) : Array Value := (l.map (Value.int .u32) ++ List.replicate (64 - l.length) (Value.int .u32 0)).toArray
theorem rowW_get (l : List Int) (i : Nat) (h : i < l.length) : (rowW l)[i]? = some (.int .u32 (l.getD i 0)) := by
  unfold rowW
  simp only [List.getElem?_toArray]
  rw [List.getElem?_append_left (by simpa using h)]
  simp [h]
theorem rowW_size (l : List Int) (h : l.length ≤ 64) : (rowW l).size = 64 := by unfold rowW; simp; omega
theorem rowW_set (l : List Int) (v : Int) (h : l.length < 64) : (rowW l).setIfInBounds l.length (.int .u32 v) = rowW (l ++ [v]) := by
  unfold rowW
  obtain ⟨n, hn⟩ : ∃ n, 64 - l.length = n + 1 := ⟨63 - l.length, by omega⟩
  have h2 : 64 - (l ++ [v]).length = n := by simp; omega
  rw [hn, h2]
  apply Array.toList_inj.1
  simp only [Array.toList_setIfInBounds, List.map_append, List.map_cons, List.map_nil, List.replicate_succ, List.append_assoc]
  rw [List.set_append_right _ _ (by simp)]
  simp
theorem rowW_zero (l : List Int) (i : Nat) (h : l.length ≤ i) (hi : i < 64) : (rowW l)[i]? = some (.int .u32 0) := by
  unfold rowW
  simp only [List.getElem?_toArray]
  rw [List.getElem?_append_right (by simpa using h), List.getElem?_replicate, if_pos (by simp; omega)]

theorem rowW_one (l : List Int) : (rowW l).all (·.oneCell') = true := by
  unfold rowW
  rw [Array.all_eq_true_iff_forall_mem]
  intro v hv
  simp only [List.mem_toArray, List.mem_append, List.mem_map, List.mem_replicate] at hv
  rcases hv with ⟨n, _, rfl⟩ | ⟨_, rfl⟩ <;> rfl

/-- A word out of four bytes. -/
def word0 (f : Nat → Int) (k : Nat) : Int :=
  bits .or .u32 (bits .or .u32 (bits .or .u32 (f (4 * k) % 4294967296 * 16777216 % 4294967296) (f (4 * k + 1) % 4294967296 * 65536 % 4294967296)) (f (4 * k + 2) % 4294967296 * 256 % 4294967296)) (f (4 * k + 3) % 4294967296)

/-- The 64 constants. -/
def rootsL : List Int := [1116352408, 1899447441, 3049323471, 3921009573, 961987163, 1508970993, 2453635748, 2870763221, 3624381080, 310598401, 607225278, 1426881987, 1925078388, 2162078206, 2614888103, 3248222580, 3835390401, 4022224774, 264347078, 604807628, 770255983, 1249150122, 1555081692, 1996064986, 2554220882, 2821834349, 2952996808, 3210313671, 3336571891, 3584528711, 113926993, 338241895, 666307205, 773529912, 1294757372, 1396182291, 1695183700, 1986661051, 2177026350, 2456956037, 2730485921, 2820302411, 3259730800, 3345764771, 3516065817, 3600352804, 4094571909, 275423344, 430227734, 506948616, 659060556, 883997877, 958139571, 1322822218, 1537002063, 1747873779, 1955562222, 2024104815, 2227730452, 2361852424, 2428436474, 2756734187, 3204031479, 3329325298]
theorem rootsL_length : rootsL.length = 64 := rfl

/-- The words of a state. -/
structure V8 where
  (a b c d e f g h : Int)
def V8.list (v : V8) : List Int := [v.a, v.b, v.c, v.d, v.e, v.f, v.g, v.h]

/-- The cells of a hash. -/
def hashA (v : V8) (r : List Int) (n : Int) : Array Value := (Value.int .u32 v.a :: .int .u32 v.b :: .int .u32 v.c :: .int .u32 v.d :: .int .u32 v.e :: .int .u32 v.f :: .int .u32 v.g :: .int .u32 v.h :: (r.map (Value.int .u8) ++ [Value.int .i64 n])).toArray
end Go.Proofs.YtdedfjkenbaebaaDoor

/- The words of a block: sha's schedule. -/
namespace Go.Proofs.YtdedfjkenbaebaaDoor
open Go.RowKit
set_option linter.unusedVariables false

/-- A word out of four earlier ones. -/
def word1 (l : List Int) (k : Nat) : Int :=
  (bits .xor .u32 (bits .xor .u32 (ror (l[k - 2]?.getD 0) 17) (ror (l[k - 2]?.getD 0) 19)) (l[k - 2]?.getD 0 / 1024) + l[k - 7]?.getD 0 +
    bits .xor .u32 (bits .xor .u32 (ror (l[k - 15]?.getD 0) 7) (ror (l[k - 15]?.getD 0) 18)) (l[k - 15]?.getD 0 / 8) + l[k - 16]?.getD 0) % 4294967296
/-- The first k words. -/
def wl (f : Nat → Int) : Nat → List Int
  | 0 => []
  | k + 1 => wl f k ++ [if k < 16 then word0 f k else word1 (wl f k) k]
theorem wl_length (f : Nat → Int) (k : Nat) : (wl f k).length = k := by
  induction k with
  | zero => rfl
  | succ k ih => rw [wl, List.length_append, ih]; rfl
theorem wl_low (f : Nat → Int) {k : Nat} (h : k < 16) : wl f (k + 1) = wl f k ++ [word0 f k] := by rw [wl, if_pos h]
theorem wl_high (f : Nat → Int) {k : Nat} (h : 16 ≤ k) : wl f (k + 1) = wl f k ++ [word1 (wl f k) k] := by rw [wl, if_neg (by omega)]
/-- The block of the words while they come. -/
abbrev rowO (l : List Int) : Obj := .cells (rowW l) 161 (0, 0)
abbrev bsW (w : World) (l : List Int) : List (Nat × Obj) := [(w.heap.size + 1, rowO l), (w.heap.size, rowO [])]

theorem schedStart (w : World) : ∃ s : HeldW w (bsW w []), s.w = (w.alloc (rowO [])).alloc (rowO []) :=
  ⟨⟨_, ((Below.refl _ w).alloc (Nat.le_refl _) _).alloc (by simp) _, List.forall_mem_cons.2 ⟨heap_new _ _ (by simp), all1 (heap_old (heap_new _ _ rfl) _)⟩⟩, rfl⟩

set_option maxRecDepth 100000 in
set_option maxHeartbeats 1000000 in
theorem sched_any (b o cap : Nat) (f : Nat → Int) (hcap : 64 ≤ cap) (hcap2 : cap ≤ 9223372036854775807) (w : World) (hf : ∀ i, i < 64 → w.cell? ⟨b, o + i, none⟩ = some (.int .u8 (f i))) :
    Calls Tryd.prog 117 #[.slice (some ⟨b, o, none⟩) 64 cap] w (Gives (.agg (rowW (wl f 64))) w) := by
  have HF := Lib.hid hf
  clear hf
  go_enter Tryd.func117, Tryd.ntmps117
  go_wp2
  go_loopw [11] (fun i wr => ∃ k : Nat, k ≤ 16 ∧ i = .int .i64 k ∧ ∃ s : HeldW w (bsW w (wl f k)), wr = s.w) (fun i _ => 16 - (intOf i).toNat)
  case atStart =>
    obtain ⟨s, hs⟩ := schedStart w
    exact ⟨0, by omega, rfl, s, by rw [hs]; rfl⟩
  case round =>
    obtain ⟨k, hk, rfl, s, rfl⟩ := hrel
    by_cases hlt : k < 16
    · have hc : ∀ j, j < 4 → ∀ s : HeldW w (bsW w (wl f k)), s.w.cell? ⟨b, o + (4 * k) + j, none⟩ = some (.int .u8 (f (4 * k + j))) := fun j hj s => by
        have h := HF.out (4 * k + j) (by omega)
        rw [show o + (4 * k + j) = o + (4 * k) + j by omega] at h
        rw [← h]
        exact s.below.cell (p := ⟨b, _, none⟩) (World.block_lt_of_cell? w _ h)
      have hc0 := hc 0 (by omega)
      rw [Nat.add_zero, Nat.add_zero] at hc0
      have hc1 := hc 1 (by omega)
      have hc2 := hc 2 (by omega)
      have hc3 := hc 3 (by omega)
      clear hc
      go_wp2
      refine wp_region_class_tail 24 _ _ (by kernel_rfl) (by kernel_rfl) s.below s.blocks (fun hne => ?_)
      simp only [List.take_succ_cons, List.take_zero, List.drop_succ_cons, List.drop_zero]
      repeat (go_big_quiet_step (fail))
      refine wpQuiet_nil ?_
      rintro _ ⟨s2, rfl⟩
      have hst : s2.w.heap[w.heap.size + 1]? = some (rowO (wl f k)) := s2.blocks (_, _) List.mem_cons_self
      have hcell : s2.w.cell? ⟨w.heap.size + 1, k, none⟩ = some (.int .u32 0) := by rw [cell_of hst, rowW_zero _ _ (Nat.le_of_eq (wl_length f k)) (by omega)]
      have hfree := free_of hst k
      have HK : (rowW (wl f k)).setIfInBounds k (.int .u32 (word0 f k)) = rowW (wl f (k + 1)) := by
        have := rowW_set (wl f k) (word0 f k) (by rw [wl_length]; omega)
        rw [wl_length] at this
        rw [this, wl_low f hlt]
      have HKH := Lib.hid HK
      clear hne hc0 hc1 hc2 hc3 hst HK s
      go_wp2
      go_roundw
      case rel => exact ⟨k + 1, by omega, by go_num, s2.store (by simp) (by simp) HKH.out, rfl⟩
      case measure => simp [intOf]; omega
    · obtain rfl : k = 16 := by omega
      go_wp2
      rw [show ((16 : Nat) : Int) = 16 from rfl]
      go_loopw [6, 7, 8, 9, 10] (fun i _ _ _ _ wr => ∃ k : Nat, 16 ≤ k ∧ k ≤ 64 ∧ i = .int .i64 k ∧ ∃ s : HeldW w (bsW w (wl f k)), wr = s.w) (fun i _ _ _ _ _ => 64 - (intOf i).toNat)
      case atStart => exact ⟨16, by omega, by omega, rfl, s, rfl⟩
      case round =>
        clear s
        obtain ⟨k, hk0, hk, rfl, s, rfl⟩ := hrel
        by_cases hlt : k < 64
        · have hc : ∀ j, j < k → ∀ s : HeldW w (bsW w (wl f k)), s.w.cell? ⟨w.heap.size + 1, j, none⟩ = some (.int .u32 ((wl f k).getD j 0)) := fun j hj s => by
            rw [cell_of (s.blocks (_, _) List.mem_cons_self), rowW_get _ _ (by rw [wl_length]; exact hj)]
          have hc2 := hc (k - 2) (by omega)
          have hc15 := hc (k - 15) (by omega)
          have hc7 := hc (k - 7) (by omega)
          have hc16 := hc (k - 16) (by omega)
          clear hc
          go_wp2
          refine wp_region_class _ _ (by kernel_rfl) (by kernel_rfl) s.below s.blocks (fun hne => ?_)
          repeat (go_big_quiet_step (fail))
          refine wpQuiet_nil ?_
          rintro _ ⟨s2, rfl⟩
          clear s hne
          go_wp2_with (go_at_call 118; refine (right_any _ _ (by unfold Amt; simp) _).mono ?_; rintro e w' ⟨rfl, rfl⟩)
          refine wp_region_class_tail 15 _ _ (by kernel_rfl) (by kernel_rfl) s2.below s2.blocks (fun hne => ?_)
          simp only [List.take_succ_cons, List.take_zero, List.drop_succ_cons, List.drop_zero]
          clear s2
          repeat (go_big_quiet_step (fail))
          refine wpQuiet_nil ?_
          rintro _ ⟨s3, rfl⟩
          have hst : s3.w.heap[w.heap.size + 1]? = some (rowO (wl f k)) := s3.blocks (_, _) List.mem_cons_self
          have hcell : s3.w.cell? ⟨w.heap.size + 1, k, none⟩ = some (.int .u32 0) := by rw [cell_of hst, rowW_zero _ _ (Nat.le_of_eq (wl_length f k)) (by omega)]
          have hfree := free_of hst k
          have HK : (rowW (wl f k)).setIfInBounds k (.int .u32 (word1 (wl f k) k)) = rowW (wl f (k + 1)) := by
            have := rowW_set (wl f k) (word1 (wl f k) k) (by rw [wl_length]; omega)
            rw [wl_length] at this
            rw [this, wl_high f hk0]
          have HKH := Lib.hid HK
          clear hne hc2 hc15 hc7 hc16 hst HK
          go_wp2
          go_roundw
          case rel => exact ⟨k + 1, by omega, by omega, by go_num, s3.store (by simp) (by simp) HKH.out, rfl⟩
          case measure => simp [intOf]; omega
        · obtain rfl : k = 64 := by omega
          have hst : s.w.heap[w.heap.size + 1]? = some (rowO (wl f 64)) := s.blocks (_, _) List.mem_cons_self
          have hrs : s.w.heap[w.heap.size]? = some (rowO []) := s.blocks (_, _) (List.mem_cons_of_mem _ List.mem_cons_self)
          have hsz : (rowW (wl f 64)).size = 64 := rowW_size _ (Nat.le_of_eq (wl_length f 64))
          have hinf : (Tryd.prog.info? 161).map (·.size) = some (rowW (wl f 64)).size := by rw [hsz]; kernel_rfl
          have hsr : (rowW []).size = (rowW (wl f 64)).size := by rw [hsz]; rfl
          have hone := rowW_one (wl f 64)
          go_wp2_with (first
            | (refine wpList_load_row rfl 161 (.tmp 3) rfl (w.heap.size + 1) rfl 161 _ (0, 0) _ hst Tryd.underlying161 rfl hinf ?_)
            | (refine wpList_store_rowTo rfl 161 (.tmp 2) (.tmp 89) rfl rfl w.heap.size (rowW (wl f 64)) rfl rfl 161 (rowW []) hrs hinf hsr hone ?_))
          refine bodyPost_ret (v := .agg (rowW (wl f 64))) ?_ rfl ⟨rfl, below_setRow s.below (Nat.le_refl _) _⟩
          exact results_cell_row Tryd.results117 _ _ w.heap.size 161 _ (0, 0) _ rfl (setRow_heap _ _ _ _ _ _ hrs) Tryd.underlying161 rfl hinf
end Go.Proofs.YtdedfjkenbaebaaDoor

/- mix: a block is mixed into the state of a hash. -/
namespace Go.Proofs.YtdedfjkenbaebaaDoor
open Go.RowKit
set_option linter.unusedVariables false

abbrev hashO (v : V8) (r : List Int) (n : Int) : Obj := .cells (hashA v r n) 134 (0, 0)

/-- The cells of the state. -/
theorem cellsV {w0 : World} {h : Nat} {bs : List (Nat × Obj)} (g : Nat) (v : V8) (r : List Int) (n : Int) (hm : (g, hashO v r n) ∈ bs) :
    (∀ s : HeldX w0 h bs, s.w.cell? ⟨g, 0, none⟩ = some (.int .u32 v.a)) ∧ (∀ s : HeldX w0 h bs, s.w.cell? ⟨g, 1, none⟩ = some (.int .u32 v.b)) ∧ (∀ s : HeldX w0 h bs, s.w.cell? ⟨g, 2, none⟩ = some (.int .u32 v.c)) ∧ (∀ s : HeldX w0 h bs, s.w.cell? ⟨g, 3, none⟩ = some (.int .u32 v.d)) ∧
    (∀ s : HeldX w0 h bs, s.w.cell? ⟨g, 4, none⟩ = some (.int .u32 v.e)) ∧ (∀ s : HeldX w0 h bs, s.w.cell? ⟨g, 5, none⟩ = some (.int .u32 v.f)) ∧ (∀ s : HeldX w0 h bs, s.w.cell? ⟨g, 6, none⟩ = some (.int .u32 v.g)) ∧ (∀ s : HeldX w0 h bs, s.w.cell? ⟨g, 7, none⟩ = some (.int .u32 v.h)) := by
  refine ⟨?_, ?_, ?_, ?_, ?_, ?_, ?_, ?_⟩ <;> (intro s; rw [cell_of (s.blocks _ hm)]; rfl)

/-- The table of the constants lies there. -/
def Roots (w : World) : Prop := ∀ i, i < 64 → w.cell? ⟨0, i, none⟩ = some (.int .u32 (rootsL[i]?.getD 0))
theorem Roots.X {w : World} {h : Nat} {bs : List (Nat × Obj)} (hr : Roots w) (hh : h ≠ 0) (s : HeldX w h bs) : Roots s.w := fun i hi => by
  have hc := hr i hi
  have hb := World.block_lt_of_cell? w _ hc
  rw [← hc]
  unfold World.cell?
  rw [s.but.block 0 hb (by omega)]
theorem Roots.below {w w' : World} (hr : Roots w) (hb : Below w.heap.size w w') : Roots w' := fun i hi => by
  rw [← hr i hi]; exact hb.cell (p := ⟨0, i, none⟩) (World.block_lt_of_cell? w _ (hr i hi))
theorem Roots.pos {w : World} (hr : Roots w) : 0 < w.heap.size := World.block_lt_of_cell? w _ (hr 0 (by omega))

/-- One of the 64 steps. -/
def tOne (v : V8) (k w : Int) : Int :=
  (v.h + bits .xor .u32 (bits .xor .u32 (ror v.e 6) (ror v.e 11)) (ror v.e 25) + bits .xor .u32 (bits .and .u32 v.e v.f) (bits .and .u32 (bits .xor .u32 4294967295 v.e) v.g) + k + w) % 4294967296
def tTwo (v : V8) : Int :=
  (bits .xor .u32 (bits .xor .u32 (ror v.a 2) (ror v.a 13)) (ror v.a 22) + bits .xor .u32 (bits .xor .u32 (bits .and .u32 v.a v.b) (bits .and .u32 v.a v.c)) (bits .and .u32 v.b v.c)) % 4294967296
def rnd (v : V8) (k w : Int) : V8 := ⟨(tOne v k w + tTwo v) % 4294967296, v.a, v.b, v.c, (v.d + tOne v k w) % 4294967296, v.e, v.f, v.g⟩
def rounds (W : List Int) (v : V8) : Nat → V8
  | 0 => v
  | k + 1 => rnd (rounds W v k) (rootsL[k]?.getD 0) (W[k]?.getD 0)
theorem allOnes : (if IntKind.u32.signed = true then -1 else IntKind.u32.max) = 4294967295 := by decide +kernel
/-- The words are added to those of the state, the first k of them. -/
def addK (v u : V8) (k : Nat) : V8 :=
  ⟨if 0 < k then (v.a + u.a) % 4294967296 else v.a, if 1 < k then (v.b + u.b) % 4294967296 else v.b, if 2 < k then (v.c + u.c) % 4294967296 else v.c, if 3 < k then (v.d + u.d) % 4294967296 else v.d,
   if 4 < k then (v.e + u.e) % 4294967296 else v.e, if 5 < k then (v.f + u.f) % 4294967296 else v.f, if 6 < k then (v.g + u.g) % 4294967296 else v.g, if 7 < k then (v.h + u.h) % 4294967296 else v.h⟩
/-- The state behind a block with the words W. -/
def mixW (v : V8) (W : List Int) : V8 := addK v (rounds W v 64) 8

def V8.at (v : V8) (k : Nat) : Int := v.list[k]?.getD 0
theorem lt8 {k : Nat} (h : k < 8) : k = 0 ∨ k = 1 ∨ k = 2 ∨ k = 3 ∨ k = 4 ∨ k = 5 ∨ k = 6 ∨ k = 7 := by omega
theorem index8 (u : V8) {k : Nat} (hk : k < 8) (w : World) : (Instr.index 129 (.agg #[.int .u32 u.a, .int .u32 u.b, .int .u32 u.c, .int .u32 u.d, .int .u32 u.e, .int .u32 u.f, .int .u32 u.g, .int .u32 u.h]) (.int .i64 (k : Int))).run Tryd.prog w = .ok (.int .u32 (u.at k)) w := by
  rcases lt8 hk with rfl | rfl | rfl | rfl | rfl | rfl | rfl | rfl <;> kernel_rfl
theorem hash_at (v : V8) (r : List Int) (n : Int) {k : Nat} (hk : k < 8) : (hashA v r n)[k]? = some (.int .u32 (v.at k)) := by
  rcases lt8 hk with rfl | rfl | rfl | rfl | rfl | rfl | rfl | rfl <;> rfl
theorem add_at (v u : V8) {k : Nat} (hk : k < 8) : (addK v u k).at k = v.at k := by
  rcases lt8 hk with rfl | rfl | rfl | rfl | rfl | rfl | rfl | rfl <;> rfl
theorem add_set (v u : V8) (r : List Int) (n : Int) {k : Nat} (hk : k < 8) : (hashA (addK v u k) r n).setIfInBounds k (.int .u32 ((v.at k + u.at k) % 4294967296)) = hashA (addK v u (k + 1)) r n := by
  rcases lt8 hk with rfl | rfl | rfl | rfl | rfl | rfl | rfl | rfl <;> rfl

set_option maxRecDepth 100000 in
set_option maxHeartbeats 1000000 in
theorem mix_any (h : Nat) (v : V8) (r : List Int) (n : Int) (b o cap : Nat) (f : Nat → Int) (hcap : 64 ≤ cap) (hcap2 : cap ≤ 9223372036854775807) (w : World) (hf : ∀ i, i < 64 → w.cell? ⟨b, o + i, none⟩ = some (.int .u8 (f i)))
    (ho : w.heap[h]? = some (hashO v r n)) (hh : h ≠ 0) (hR : Roots w) :
    Calls Tryd.prog 108 #[.pointer (some ⟨h, 0, none⟩), .slice (some ⟨b, o, none⟩) 64 cap] w (Puts h (hashO (mixW v (wl f 64)) r n) (.tuple #[]) w) := by
  have hsc := sched_any b o cap f hcap hcap2 w hf
  have hsz : (rowW (wl f 64)).size = 64 := rowW_size _ (Nat.le_of_eq (wl_length f 64))
  have hlen := wl_length f 64
  have hone := rowW_one (wl f 64)
  generalize wl f 64 = W at hsc hsz hone hlen ⊢
  have hinf : (Tryd.prog.info? 161).map (·.size) = some (rowW W).size := by rw [hsz]; kernel_rfl
  go_enter Tryd.func108, Tryd.ntmps108
  go_wp2_with fail
  refine (HeldX.call (s := HeldX.start ho) hsc).mono ?_
  rintro e _ ⟨rfl, s1, rfl⟩
  have hn := heap_new s1.w (rowO []) rfl
  have hsr : (rowW []).size = (rowW W).size := by rw [hsz]; rfl
  go_wp2_with (refine wpList_store_rowTo rfl 161 (.tmp 4) (.tmp 19) rfl rfl s1.w.heap.size (rowW W) rfl rfl 161 (rowW []) hn hinf hsr hone ?_)
  rw [World.setRow_alloc_new]
  obtain ⟨s2, hs2⟩ : ∃ s2 : HeldX w h [(s1.w.heap.size, rowO W), (h, hashO v r n)], s1.w.alloc (rowO W) = s2.w := ⟨s1.push _, rfl⟩
  rw [hs2]
  have hB : w.heap.size ≤ s1.w.heap.size := s1.but.size
  have hhw := (Array.getElem?_eq_some_iff.1 ho).1
  clear hs2 hn hsc hinf hsr hone ho hf
  generalize s1.w.heap.size = B at s2 hB ⊢
  clear s1
  have hcs := cellsV (w0 := w) (h := h) (bs := [(B, rowO W), (h, hashO v r n)]) h v r n (by simp)
  have HC := Lib.hid hcs
  obtain ⟨c0, c1, c2, c3, c4, c5, c6, c7⟩ := hcs
  have HL := Lib.hid hlen
  have HS := Lib.hid hsz
  have HR := Lib.hid hR
  clear hlen hsz hR
  refine wp_region_X s2 (by kernel_rfl) (by kernel_rfl) (fun hne => ?_)
  repeat (go_big_quiet_step (fail))
  refine wpQuiet_nil ?_
  rintro _ ⟨s3, rfl⟩
  clear c0 c1 c2 c3 c4 c5 c6 c7 s2 hne
  go_wp2
  go_loopw [5, 6, 7, 8, 9, 10, 11, 12, 13, 14, 15, 52] (fun xa xb xc xd xe xf xg xh _ _ _ i wr => ∃ k : Nat, k ≤ 64 ∧ i = .int .i64 k ∧ ∃ u : V8, Hid (u = rounds W v k) ∧ xa = .int .u32 u.a ∧ xb = .int .u32 u.b ∧ xc = .int .u32 u.c ∧ xd = .int .u32 u.d ∧ xe = .int .u32 u.e ∧ xf = .int .u32 u.f ∧ xg = .int .u32 u.g ∧ xh = .int .u32 u.h ∧
      ∃ s : HeldX w h [(B, rowO W), (h, hashO v r n)], wr = s.w) (fun _ _ _ _ _ _ _ _ _ _ _ i _ => 64 - (intOf i).toNat)
  case atStart => exact ⟨0, by omega, rfl, v, rfl, rfl, rfl, rfl, rfl, rfl, rfl, rfl, rfl, s3, rfl⟩
  case round =>
    clear s3
    obtain ⟨k, hk, rfl, u, hu, rfl, rfl, rfl, rfl, rfl, rfl, rfl, rfl, s, rfl⟩ := hrel
    by_cases hlt : k < 64
    · have cr : ∀ s : HeldX w h [(B, rowO W), (h, hashO v r n)], s.w.cell? ⟨0, k, none⟩ = some (.int .u32 (rootsL[k]?.getD 0)) := fun s => HR.out.X hh s k hlt
      have cw : ∀ s : HeldX w h [(B, rowO W), (h, hashO v r n)], s.w.cell? ⟨B, k, none⟩ = some (.int .u32 (W[k]?.getD 0)) := fun s => by
        rw [cell_of (s.blocks (_, _) List.mem_cons_self), rowW_get W k (by rw [HL.out]; exact hlt)]; rfl
      go_wp2
      refine wp_region_X s (by kernel_rfl) (by kernel_rfl) (fun hne => ?_)
      repeat (go_big_quiet_step ((go_at_call 118; exact HeldX.call (gives_same (right_any _ _ (by unfold Amt; simp) _)))))
      refine wpQuiet_nil ?_
      rintro _ ⟨s4, rfl⟩
      clear s hne cr cw
      go_wp2_with (go_at_call 118; refine (right_any _ _ (by unfold Amt; simp) _).mono ?_; rintro e w' ⟨rfl, rfl⟩)
      rw [allOnes]
      go_roundw
      case rel => exact ⟨k + 1, by omega, by go_num, rnd u (rootsL[k]?.getD 0) (W[k]?.getD 0), Lib.hid (by rw [hu.out]; rfl), rfl, rfl, rfl, rfl, rfl, rfl, rfl, rfl, s4, rfl⟩
      case measure => simp [intOf]; omega
    · obtain rfl : k = 64 := by omega
      go_wp2
      rw [show ((64 : Nat) : Int) = 64 from rfl]
      go_loopw [16, 17, 124] (fun _ _ i wr => ∃ k : Nat, k ≤ 8 ∧ i = .int .i64 k ∧ ∃ s : HeldX w h [(h, hashO (addK v u k) r n)], wr = s.w) (fun _ _ i _ => 8 - (intOf i).toNat)
      case atStart => exact ⟨0, by omega, rfl, s.sub (by simp [addK]), rfl⟩
      case round =>
        clear s
        obtain ⟨k, hk, rfl, s, rfl⟩ := hrel
        by_cases hlt : k < 8
        · have hc := s.blocks (_, _) List.mem_cons_self
          have c0 : ∀ s : HeldX w h [(h, hashO (addK v u k) r n)], s.w.cell? ⟨h, k, none⟩ = some (.int .u32 (v.at k)) := fun s => by
            rw [cell_of (s.blocks (_, _) List.mem_cons_self), hash_at _ _ _ hlt, add_at _ _ hlt]
          have hix := index8 u hlt
          clear HC hc
          go_wp2
          clear hix
          refine wp_region_X_tail 9 s (by kernel_rfl) (by kernel_rfl) (fun hne => ?_)
          simp only [List.take_succ_cons, List.take_zero, List.drop_succ_cons, List.drop_zero]
          repeat (go_big_quiet_step (fail))
          refine wpQuiet_nil ?_
          rintro _ ⟨s2, rfl⟩
          have hcell := c0 s2
          have hfree := free_of (s2.blocks (_, _) List.mem_cons_self) k
          clear c0 s hne
          go_wp2
          go_roundw
          case rel => exact ⟨k + 1, by omega, by go_num, s2.store (.inl rfl) (by simp) (add_set v u r n hlt), rfl⟩
          case measure => simp [intOf]; omega
        · obtain rfl : k = 8 := by omega
          go_wp2
          go_end0
          refine ⟨rfl, s.but, ?_⟩
          have hb : s.w.heap[h]? = some (hashO (addK v u 8) r n) := s.blocks (_, _) List.mem_cons_self
          rw [hb, hu.out]
          rfl
end Go.Proofs.YtdedfjkenbaebaaDoor

/- What a hash holds when it has taken some bytes; the law of copy into a block that may be written. -/
namespace Go.Proofs.YtdedfjkenbaebaaDoor
open Go.RowKit
set_option linter.unusedVariables false

theorem wl_congr (f g : Nat → Int) (h : ∀ i, i < 64 → f i = g i) : ∀ k, k ≤ 64 → wl f k = wl g k
  | 0, _ => rfl
  | k + 1, hk => by
    rw [wl, wl, wl_congr f g h k (by omega)]
    by_cases hk' : k < 16
    · rw [if_pos hk', if_pos hk']
      unfold word0
      rw [h (4 * k) (by omega), h (4 * k + 1) (by omega), h (4 * k + 2) (by omega), h (4 * k + 3) (by omega)]
    · rw [if_neg hk', if_neg hk']

/-- The state at first. -/
def initV : V8 := ⟨1779033703, 3144134277, 1013904242, 2773480762, 1359893119, 2600822924, 528734635, 1541459225⟩
/-- The state behind q blocks of bytes. -/
def stF (f : Nat → Int) : Nat → V8
  | 0 => initV
  | q + 1 => mixW (stF f q) (wl (fun i => f (64 * q + i)) 64)
theorem stF_congr (f g : Nat → Int) : ∀ q, (∀ i, i < 64 * q → f i = g i) → stF f q = stF g q
  | 0, _ => rfl
  | q + 1, h => by
    rw [stF, stF, stF_congr f g q (fun i hi => h i (by omega)), wl_congr _ _ (fun i hi => h (64 * q + i) (by omega)) 64 (by omega)]

def byteAt (m : List Int) (i : Nat) : Int := m[i]?.getD 0
theorem byteAt_append (m l : List Int) {i : Nat} (h : i < m.length) : byteAt (m ++ l) i = byteAt m i := by unfold byteAt; rw [List.getElem?_append_left h]

/-- The cells of a hash, as a list. -/
def hashL (v : V8) (r : List Int) (n : Int) : List Value := Value.int .u32 v.a :: .int .u32 v.b :: .int .u32 v.c :: .int .u32 v.d :: .int .u32 v.e :: .int .u32 v.f :: .int .u32 v.g :: .int .u32 v.h :: (r.map (Value.int .u8) ++ [Value.int .i64 n])
theorem hashL_eq (v : V8) (r : List Int) (n : Int) : (hashL v r n).toArray = hashA v r n := rfl
theorem hashL_length (v : V8) (r : List Int) (n : Int) (h : r.length = 64) : (hashL v r n).length = 73 := by simp [hashL, h]
theorem hashL_splice (v : V8) (r : List Int) (n : Int) (off : Nat) (l : List Int) (h : off + l.length ≤ r.length) : splice (hashL v r n) (8 + off) (l.map (Value.int .u8)) = hashL v (splice r off l) n := by
  unfold splice hashL
  rw [show 8 + off = off + 8 by omega, List.length_map, show off + 8 + l.length = (off + l.length) + 8 by omega]
  simp only [List.take_succ_cons, List.drop_succ_cons, List.map_append, List.map_take, List.map_drop, List.cons_append]
  rw [List.take_append_of_le_length (by simp; omega), List.drop_append_of_le_length (by simp; omega)]
  simp
theorem splice_length (r : List Int) (off : Nat) (l : List Int) (h : off + l.length ≤ r.length) : (splice r off l).length = r.length := length_splice r off l h
theorem splice_low (r : List Int) (off : Nat) (l : List Int) {i : Nat} (hi : i < off) (h : off + l.length ≤ r.length) : (splice r off l)[i]? = r[i]? := by
  unfold splice; rw [List.getElem?_append_left (by simp; omega), List.getElem?_take, if_pos hi]
theorem splice_in (r : List Int) (off : Nat) (l : List Int) {i : Nat} (hi : i < l.length) (h : off + l.length ≤ r.length) : (splice r off l)[off + i]? = l[i]? := by
  unfold splice
  rw [List.getElem?_append_right (by simp; omega), List.length_take, Nat.min_eq_left (by omega), show off + i - off = i by omega, List.getElem?_append_left hi]

/-- The cells of a hash, one by one. -/
theorem hash_rest (v : V8) (r : List Int) (n : Int) {i : Nat} (h : r.length = 64) (hi : i < 64) : (hashA v r n)[8 + i]? = some (.int .u8 (r[i]?.getD 0)) := by
  rw [← hashL_eq, List.getElem?_toArray, hashL, show 8 + i = i + 8 by omega]
  simp only [List.getElem?_cons_succ]
  rw [List.getElem?_append_left (by simp; omega), List.getElem?_map, List.getElem?_eq_getElem (by omega)]
  rfl
theorem hash_len (v : V8) (r : List Int) (n : Int) (h : r.length = 64) : (hashA v r n)[72]? = some (.int .i64 n) := by
  rw [← hashL_eq, List.getElem?_toArray, hashL]
  simp only [List.getElem?_cons_succ]
  rw [List.getElem?_append_right (by simp [h])]
  simp [h]
theorem hash_set_len (v : V8) (r : List Int) (n n' : Int) (h : r.length = 64) : (hashA v r n).setIfInBounds 72 (.int .i64 n') = hashA v r n' := by
  rw [← hashL_eq, ← hashL_eq]
  apply Array.toList_inj.1
  rw [Array.toList_setIfInBounds]
  unfold hashL
  simp only [List.set_cons_succ]
  rw [List.set_append_right _ _ (by simp [h])]
  simp [h]

/-- The hash has taken the bytes m. -/
def Inv (m : List Int) (o : Obj) : Prop := ∃ r : List Int, r.length = 64 ∧ (∀ i, i < m.length % 64 → r[i]? = m[m.length / 64 * 64 + i]?) ∧ o = hashO (stF (byteAt m) (m.length / 64)) r m.length

theorem Src.X {w : World} {h : Nat} {b o : Nat} {l : List Int} (hb : b ≠ h) (hc : ∀ i, i < l.length → w.cell? ⟨b, o + i, none⟩ = some (.int .u8 (l[i]?.getD 0))) {bs : List (Nat × Obj)} (s : HeldX w h bs) :
    ∀ i, i < l.length → s.w.cell? ⟨b, o + i, none⟩ = some (.int .u8 (l[i]?.getD 0)) := fun i hi => by
  have h1 := hc i hi
  rw [← h1]
  unfold World.cell?
  rw [s.but.block b (World.block_lt_of_cell? w _ h1) hb]

/-- Bytes are copied into the block that may be written. -/
theorem wpList_copy_X {P : Program} {w0 : World} {h g : Nat} {bs : List (Nat × Obj)} {ops : Array Oper} {rest : List Oper} {o : Oper} {a : Act} {Q : Exit → Act → World → Prop} (off : Nat) (cur : List Value) (t : TypeId)
    (s : HeldX w0 h ((g, .cells cur.toArray t (0, 0)) :: bs)) (hg : g = h ∨ w0.heap.size ≤ g) (hne : ∀ p ∈ bs, p.1 ≠ g) (d sr : Operand) (dT sT : TypeId)
    (hgd : o.guard = none) (ho : o.op = .call { callee := .builtin .copy, args := #[d, sr], argTypes := #[dT, sT] }) (elem : TypeId) (hu : P.underlying dT = some (.slice elem)) (hsz : (P.info? elem).map (·.size) = some 1)
    (dp sp : Option Addr) (dLen dCap sLen sCap : Nat) (hd : a.eval d = .slice dp dLen dCap) (hs : a.eval sr = .slice sp sLen sCap) (cs : List Value) (hn : cs.length = Nat.min sLen dLen) (k : Nat) (hk : cs.length = k)
    (hpos : 0 < cs.length → dp = some ⟨g, off, none⟩ ∧ ∃ ad, sp = some ad ∧ ∀ j v, cs[j]? = some v → s.w.cell? (ad.add j) = some v)
    (hfit : off + cs.length ≤ cur.length) (h1 : ∀ v ∈ cs, v.oneCell' = true)
    (H : ∀ s' : HeldX w0 h ((g, .cells (splice cur off cs).toArray t (0, 0)) :: bs), wpList P ops Q rest (a.put o.dst (goInt k)) s'.w) :
    wpList P ops Q (o :: rest) a s.w := by
  subst hk
  have hcur : s.w.heap[g]? = some (.cells cur.toArray t (0, 0)) := s.blocks (_, _) List.mem_cons_self
  by_cases h0 : cs.length = 0
  · obtain rfl : cs = [] := List.eq_nil_of_length_eq_zero h0
    have he : splice cur off [] = cur := by simp [splice]
    have := H (by rw [he]; exact s)
    refine wpList_copy_nothing hgd d sr dT sT ho elem hu hsz dp sp dLen dCap sLen sCap hd hs (by simpa using hn.symm) ?_
    have hw : ∀ (x : List Value) (hx : splice cur off [] = x) (s2 : HeldX w0 h ((g, .cells x.toArray t (0, 0)) :: bs)), wpList P ops Q rest (a.put o.dst (goInt 0)) s2.w := fun x hx s2 => by subst hx; exact H s2
    exact hw cur he s
  · obtain ⟨rfl, ad, rfl, hsrc⟩ := hpos (by omega)
    refine wpList_copy_own hgd d sr dT sT ho elem hu hsz g off dLen dCap ad sLen sCap hd hs cur.toArray t hcur cs hn hsrc (by simpa using hfit) h1 ?_
    exact H (s.row hg hne _)
end Go.Proofs.YtdedfjkenbaebaaDoor
