import Derived.Test.YtdedfjkenbaebaaDoorE08a4
import Derived.Laws.BytesString
import Derived.Test.YtdedfjkenbaebaaDoorE08a2
import Derived.Lib.SlBytesConst
import Derived.Laws.StructEq
import Derived.Laws.AppendOwnNone
import Derived.Test.YtdedfjkenbaebaaDoorRows
import Derived.ProofKit
import Derived.OpenShut
import Derived.ChangeOld
import Derived.LaidMore
import Derived.MakeChecks
import Derived.Stop.Joined
import Derived.Lib.LaidTab
import Derived.Lib.SmallJoins
import Derived.Laws.Cover3
import Derived.BigQuiet
import Derived.Deep.QuietTactic
import Derived.LoopTactic
import Derived.Outline
import Derived.Shelf.Abstract
import Derived.WalkKit
import Derived.OwnWalk
import Derived.Lib.Hide
import Derived.Test.YtdedfjkenbaebaaDoorE08a1
import Derived.Test.YtdedfjkenbaebaaDoorProg
import Derived.Test.YtdedfjkenbaebaaDoorChecked
import Derived.RangeFuncBox
import Derived.RangeFuncLeaves
import Derived.RangeFuncNested
import Derived.OwnWalkIn
import Derived.TacticsInMore
import Derived.LoopNIn
import Derived.LoopIn
import Derived.Maps.AppendAt
/- digest of package sha: the bytes of the words of a state. -/
namespace Go.Proofs.YtdedfjkenbaebaaDoor
open Go.RowKit
set_option linter.unusedVariables false

/-- Byte j of a digest. -/
def digB (v : V8) (j : Nat) : Int := v.at (j / 4) / 2 ^ (24 - 8 * (j % 4)) % 256
/-- The first k bytes of a digest. -/
def digL (v : V8) (k : Nat) : List Int := (List.range k).map (digB v)
theorem digL_length (v : V8) (k : Nat) : (digL v k).length = k := by simp [digL]
/-- The cells of a digest while they come. -/
def digK (v : V8) (k : Nat) : List Int := digL v k ++ List.replicate (32 - k) 0
theorem digK_length (v : V8) {k : Nat} (h : k ≤ 32) : (digK v k).length = 32 := by unfold digK; rw [List.length_append, digL_length, List.length_replicate]; omega
theorem digK_set (v : V8) {k : Nat} (h : k < 32) : (digK v k).set k (digB v k) = digK v (k + 1) := by
  unfold digK
  obtain ⟨n, hn⟩ : ∃ n, 32 - k = n + 1 := ⟨31 - k, by omega⟩
  rw [hn, show 32 - (k + 1) = n by omega, List.set_append_right _ _ (by rw [digL_length]; omega), digL_length, Nat.sub_self, List.replicate_succ, List.set_cons_zero]
  unfold digL
  rw [List.range_succ, List.map_append]
  simp
theorem digK_end (v : V8) : digK v 32 = digL v 32 := by unfold digK; simp

theorem digB_at (v : V8) (k : Nat) {j : Nat} (hj : j < 4) : v.at k / 2 ^ (24 - 8 * j) % 256 = digB v (4 * k + j) := by
  unfold digB; rw [show (4 * k + j) / 4 = k by omega, show (4 * k + j) % 4 = j by omega]
abbrev dig0 (w : World) (v : V8) (k : Nat) : List (Nat × Obj) := [(w.heap.size + 1, .cells (byteA (digK v k)) 23 (0, 0)), (w.heap.size, .cells (byteA (digK v 0)) 23 (0, 0))]
theorem digStart (v : V8) (w : World) : ∃ s : HeldW w (dig0 w v 0), s.w = (w.alloc (.cells (byteA (digK v 0)) 23)).alloc (.cells (byteA (digK v 0)) 23) :=
  ⟨⟨_, ((Below.refl _ w).alloc (Nat.le_refl _) _).alloc (by simp) _, List.forall_mem_cons.2 ⟨heap_new _ _ (by simp), all1 (heap_old (heap_new _ _ rfl) _)⟩⟩, rfl⟩

set_option maxRecDepth 100000 in
set_option maxHeartbeats 4000000 in
theorem digest_any (h : Nat) (v : V8) (r : List Int) (n : Int) (w : World) (ho : w.heap[h]? = some (hashO v r n)) :
    Calls Tryd.prog 93 #[.pointer (some ⟨h, 0, none⟩)] w (Gives (.agg (byteA (digL v 32))) w) := by
  have HO := Lib.hid ho
  have hhw := (Array.getElem?_eq_some_iff.1 ho).1
  clear ho
  go_enter Tryd.func93, Tryd.ntmps93
  go_wp2
  go_loopw [4, 5, 6, 8, 14] (fun _ _ _ i _ wr => ∃ k : Nat, k ≤ 8 ∧ i = .int .i64 k ∧ ∃ s : HeldW w (dig0 w v (4 * k)), wr = s.w) (fun _ _ _ i _ _ => 8 - (intOf i).toNat)
  case atStart =>
    obtain ⟨s, hs⟩ := digStart v w
    exact ⟨0, by omega, rfl, s, by rw [hs]; rfl⟩
  case round =>
    obtain ⟨k, hk, rfl, s, rfl⟩ := hrel
    by_cases hlt : k < 8
    · have hc : ∀ s : HeldW w (dig0 w v (4 * k)), s.w.cell? ⟨h, k, none⟩ = some (.int .u32 (v.at k)) := fun s => by
        rw [s.below.cell (p := ⟨h, k, none⟩) hhw, cell_of HO.out, hash_at v r n hlt]
      go_wp2
      refine wp_region_class _ _ (by kernel_rfl) (by kernel_rfl) s.below s.blocks (fun hne => ?_)
      clear s
      repeat (go_big_quiet_step (fail))
      refine wpQuiet_nil ?_
      rintro _ ⟨s, rfl⟩
      clear hne hc
      go_wp2
      go_loopw [6, 14] (fun _ i wr => ∃ j : Nat, j ≤ 4 ∧ i = .int .i64 j ∧ ∃ s : HeldW w (dig0 w v (4 * k + j)), wr = s.w) (fun _ i _ => 4 - (intOf i).toNat)
      case atStart => exact ⟨0, by omega, rfl, s, rfl⟩
      case round =>
        clear s
        obtain ⟨j, hj, rfl, s, rfl⟩ := hrel
        have hblk : s.w.heap[w.heap.size + 1]? = some (.cells (byteA (digK v (4 * k + j))) 23 (0, 0)) := s.blocks (_, _) List.mem_cons_self
        by_cases hlj : j < 4
        · have hcell : s.w.cell? ⟨w.heap.size + 1, 4 * k + j, none⟩ = some (.int .u8 ((digK v (4 * k + j))[4 * k + j]?.getD 0)) := by
            rw [cell_of hblk, byteA_get _ (by rw [digK_length _ (by omega)]; omega)]
          have hfree := free_of hblk (4 * k + j)
          have HK := Lib.hid (show (byteA (digK v (4 * k + j))).setIfInBounds (4 * k + j) (.int .u8 (v.at k / 2 ^ (24 - 8 * j) % 256)) = byteA (digK v (4 * k + (j + 1))) by
            rw [digB_at v k hlj, byteA_set, digK_set v (by omega)]; rfl)
          clear hblk
          go_wp2
          go_roundw
          case rel => exact ⟨j + 1, by omega, by go_num, s.store (by simp) (by simp) HK.out, rfl⟩
          case measure => simp [intOf]; omega
        · obtain rfl : j = 4 := by omega
          clear hblk
          go_wp2
          go_roundw
          case rel => exact ⟨k + 1, by omega, by go_num, s, rfl⟩
          case measure => simp [intOf]; omega
    · obtain rfl : k = 8 := by omega
      have hst : s.w.heap[w.heap.size + 1]? = some (.cells (byteA (digK v 32)) 23 (0, 0)) := s.blocks (_, _) List.mem_cons_self
      have hrs : s.w.heap[w.heap.size]? = some (.cells (byteA (digK v 0)) 23 (0, 0)) := s.blocks (_, _) (List.mem_cons_of_mem _ List.mem_cons_self)
      rw [digK_end] at hst
      have hsz : (byteA (digL v 32)).size = 32 := by rw [byteA_size, digL_length]
      have hsr : (byteA (digK v 0)).size = (byteA (digL v 32)).size := by rw [hsz, byteA_size, digK_length _ (by omega)]
      have hinf : (Tryd.prog.info? 23).map (·.size) = some (byteA (digL v 32)).size := by rw [hsz]; kernel_rfl
      have hone := byteA_one (digL v 32)
      clear hsz
      go_wp2_with (first
        | (refine wpList_load_row rfl 23 (.tmp 3) rfl (w.heap.size + 1) rfl 23 _ (0, 0) _ hst Tryd.underlying23 rfl hinf ?_)
        | (refine wpList_store_rowTo rfl 23 (.tmp 2) (.tmp 30) rfl rfl w.heap.size (byteA (digL v 32)) rfl rfl 23 (byteA (digK v 0)) hrs hinf hsr hone ?_))
      refine bodyPost_ret (v := .agg (byteA (digL v 32))) ?_ rfl ⟨rfl, below_setRow s.below (Nat.le_refl _) _⟩
      exact results_cell_row Tryd.results93 _ _ w.heap.size 23 _ (0, 0) _ rfl (setRow_heap _ _ _ _ _ _ hrs) Tryd.underlying23 rfl hinf
end Go.Proofs.YtdedfjkenbaebaaDoor

/- Sum and Of of package sha. -/
namespace Go.Proofs.YtdedfjkenbaebaaDoor
open Go.RowKit
set_option linter.unusedVariables false

/-- The digest of bytes. -/
def shaL (m : List Int) : List Int := digL (stF (byteAt (m ++ padL m.length)) ((m ++ padL m.length).length / 64)) 32
theorem shaL_length (m : List Int) : (shaL m).length = 32 := digL_length _ _
theorem padL_length (n : Nat) : (padL n).length = zerosOf n + 9 := padK_length _ _ (by omega)

/-- A new digest. -/
abbrev zero32 : Array Value := #[Value.int .u8 0, Value.int .u8 0, Value.int .u8 0, Value.int .u8 0, Value.int .u8 0, Value.int .u8 0, Value.int .u8 0, Value.int .u8 0, Value.int .u8 0, Value.int .u8 0, Value.int .u8 0, Value.int .u8 0, Value.int .u8 0, Value.int .u8 0, Value.int .u8 0, Value.int .u8 0, Value.int .u8 0, Value.int .u8 0, Value.int .u8 0, Value.int .u8 0, Value.int .u8 0, Value.int .u8 0, Value.int .u8 0, Value.int .u8 0, Value.int .u8 0, Value.int .u8 0, Value.int .u8 0, Value.int .u8 0, Value.int .u8 0, Value.int .u8 0, Value.int .u8 0, Value.int .u8 0]
theorem two_blocks (w : World) (o1 o2 : Obj) : ∃ s : HeldW w [(w.heap.size + 1, o2), (w.heap.size, o1)], s.w = (w.alloc o1).alloc o2 :=
  ⟨⟨_, ((Below.refl _ w).alloc (Nat.le_refl _) _).alloc (by simp) _, List.forall_mem_cons.2 ⟨heap_new _ _ (by simp), all1 (heap_old (heap_new _ _ rfl) _)⟩⟩, rfl⟩
theorem Roots.W {w : World} {bs : List (Nat × Obj)} (hr : Roots w) (s : HeldW w bs) : Roots s.w := hr.below s.below

theorem Src.below {w w' : World} {h : Nat} {a : Option Addr} {l : List Int} (hs : Src w h a l) (hb : Below w.heap.size w w') : Src w' h a l := fun hp => by
  obtain ⟨b, o, rfl, hbh, hc⟩ := hs hp
  exact ⟨b, o, rfl, hbh, fun i hi => by rw [← hc i hi]; exact hb.cell (p := ⟨b, o + i, none⟩) (World.block_lt_of_cell? w _ (hc i hi))⟩
theorem PartsAt.below {w w' : World} {h : Nat} {pa : Option Addr} {ls : List (List Int)} (hs : PartsAt w h pa ls) (hb : Below w.heap.size w w') : PartsAt w' h pa ls := fun hp => by
  obtain ⟨b, o, rfl, hbh, hc⟩ := hs hp
  refine ⟨b, o, rfl, hbh, fun i hi => ?_⟩
  obtain ⟨a, cap, h1, h2, h3, h4⟩ := hc i hi
  exact ⟨a, cap, by rw [← h1]; exact hb.cell (p := ⟨b, o + i, none⟩) (World.block_lt_of_cell? w _ h1), h2, h3, h4.below hb⟩
theorem pad_held {P : Program} {f : FuncId} {args : Array Value} {n k : Nat} {t : TypeId} {l : List Int} {w0 : World} {bs : List (Nat × Obj)} {s : HeldW w0 bs}
    (hc : Calls P f args s.w fun e w' => e = .returned (.slice (some ⟨s.w.heap.size, 0, none⟩) n k) ∧ Below s.w.heap.size s.w w' ∧ w'.heap[s.w.heap.size]? = some (.cells (byteA l) t (0, 0))) :
    Calls P f args s.w fun e w'' => ∃ g, e = .returned (.slice (some ⟨g, 0, none⟩) n k) ∧ w0.heap.size ≤ g ∧ Hid (∀ p ∈ bs, p.1 ≠ g) ∧ ∃ s' : HeldW w0 ((g, .cells (byteA l) t (0, 0)) :: bs), w'' = s'.w :=
  hc.mono fun _ w'' ⟨he, hb, ho⟩ => ⟨_, he, s.below.size, fun p hp e => by have := (Array.getElem?_eq_some_iff.1 (s.blocks p hp)).1; omega,
    ⟨w'', s.below.trans (hb.mono s.below.size), List.forall_mem_cons.2 ⟨ho, fun p hp => (hb.block _ (Array.getElem?_eq_some_iff.1 (s.blocks p hp)).1).trans (s.blocks p hp)⟩⟩, rfl⟩

set_option maxRecDepth 100000 in
set_option maxHeartbeats 4000000 in
theorem sum_any (h : Nat) (m : List Int) (o : Obj) (w : World) (hinv : Inv m o) (ho : w.heap[h]? = some o) (hR : Roots w) (hm : m.length < 1152921504606846976) :
    Calls Tryd.prog 64 #[.pointer (some ⟨h, 0, none⟩)] w (Gives (.agg (byteA (shaL m))) w) := by
  have hinv0 := hinv
  obtain ⟨r, hr, hrm, rfl⟩ := hinv
  have HI := Lib.hid hinv0
  have hsz := hash_size (stF (byteAt m) (m.length / 64)) r m.length hr
  have hone := hash_one (stF (byteAt m) (m.length / 64)) r m.length
  have hinf : (Tryd.prog.info? 134).map (·.size) = some (hashA (stF (byteAt m) (m.length / 64)) r m.length).size := by rw [hsz]; kernel_rfl
  have hzs : zeroA.size = (hashA (stF (byteAt m) (m.length / 64)) r m.length).size := by rw [hsz]; rfl
  have c72 : w.cell? ⟨h, 72, none⟩ = some (.int .i64 m.length) := inv_len hinv0 ho
  have hhw := (Array.getElem?_eq_some_iff.1 ho).1
  clear hrm hr hsz hinv0
  dsimp only [hashO] at ho HI
  generalize hashA (stF (byteAt m) (m.length / 64)) r m.length = A at *
  have hz := zero_hash
  have HR := Lib.hid hR
  have hgo := heap_old ho (.cells zero32 23 (0, 0))
  obtain ⟨s0, hs0⟩ := two_blocks w (.cells zero32 23 (0, 0)) (.cells zeroA 134 (0, 0))
  have hn : ((w.alloc (.cells zero32 23 (0, 0))).alloc (.cells zeroA 134 (0, 0))).heap[w.heap.size + 1]? = some (.cells zeroA 134 (0, 0)) := heap_new _ _ (by simp)
  obtain ⟨s1, hs1⟩ : ∃ s1 : HeldW w [(w.heap.size + 1, .cells A 134 (0, 0)), (w.heap.size, .cells zero32 23 (0, 0))], ((w.alloc (.cells zero32 23 (0, 0))).alloc (.cells zeroA 134 (0, 0))).setRow (w.heap.size + 1) A = s1.w :=
    ⟨s0.row (by simp) (by simp), by rw [← hs0]; rfl⟩
  have hcw : (((w.alloc (.cells zero32 23 (0, 0))).alloc (.cells zeroA 134 (0, 0))).setRow (w.heap.size + 1) A).cell? ⟨h, 72, none⟩ = some (.int .i64 m.length) := by
    rw [hs1, s1.below.cell (p := ⟨h, 72, none⟩) hhw, c72]
  have HS := Lib.hid hs1
  clear hR ho hs0 c72 hs1 s0
  go_enter Tryd.func64, Tryd.ntmps64
  go_wp2_with (first
    | (refine wpList_load_row rfl 134 (.tmp 8) rfl h rfl 134 _ (0, 0) _ hgo Tryd.underlying134 rfl hinf ?_)
    | (refine wpList_store_rowTo rfl 134 (.tmp 3) (.tmp 9) rfl rfl (w.heap.size + 1) A rfl rfl 134 zeroA hn hinf hzs hone ?_))
  rw [HS.out]
  clear hcw hgo hn HS hinf hone hzs hz
  refine (pad_held (padding_any m.length s1.w (by omega))).mono ?_
  rintro e _ ⟨g, rfl, hg, hgb, s2, rfl⟩
  clear s1
  have hpb := s2.blocks (_, _) List.mem_cons_self
  have ht := take_any (w.heap.size + 1) m (padL m.length) (.cells A 134 (0, 0)) (some ⟨g, 0, none⟩) (zerosOf m.length + 9) s2.w HI.out (s2.blocks (_, _) (by simp)) (by omega) (HR.out.W s2)
    (fun _ => ⟨g, 0, rfl, fun e => hgb.out _ List.mem_cons_self e.symm, fun i hi => by rw [Nat.zero_add, cell_of hpb, byteA_get _ hi]⟩) (by rw [padL_length]; omega) (by unfold zerosOf; omega) (by rw [padL_length]; unfold zerosOf; omega)
  rw [padL_length] at ht
  have ht2 := HeldW.takes (s := s2.sub (bs' := [(w.heap.size + 1, .cells A 134 (0, 0)), (w.heap.size, .cells zero32 23 (0, 0))]) (by simp)) ht (by simp) (by simp)
  clear ht hpb
  go_wp2_with fail
  refine ht2.mono ?_
  rintro e _ ⟨rfl, o3, hi3, s3, rfl⟩
  clear ht2 s2
  obtain ⟨r3, hr3, _, rfl⟩ := hi3.out
  have hd := HeldW.call (s := s3) (digest_any (w.heap.size + 1) _ r3 _ s3.w (s3.blocks (_, _) List.mem_cons_self))
  change Calls _ _ _ _ (fun e w'' => e = .returned (.agg (byteA (shaL m))) ∧ _) at hd
  clear hi3 hr3
  generalize hD : shaL m = D at hd ⊢
  have hDl : D.length = 32 := by rw [← hD]; exact shaL_length m
  go_wp2_with fail
  refine hd.mono ?_
  rintro e _ ⟨rfl, s4, rfl⟩
  clear hd s3
  have hrs : s4.w.heap[w.heap.size]? = some (.cells zero32 23 (0, 0)) := s4.blocks (_, _) (by simp)
  have hsz : (byteA D).size = 32 := by rw [byteA_size, hDl]
  have hsr : zero32.size = (byteA D).size := by rw [hsz]; rfl
  have hinf : (Tryd.prog.info? 23).map (·.size) = some (byteA D).size := by rw [hsz]; kernel_rfl
  have hone := byteA_one D
  clear hsz hDl
  go_wp2_with (refine wpList_store_rowTo rfl 23 (.tmp 2) (.tmp 17) rfl rfl w.heap.size (byteA D) rfl rfl 23 zero32 hrs hinf hsr hone ?_)
  refine bodyPost_ret (v := .agg (byteA D)) ?_ rfl ⟨by rw [hD], below_setRow s4.below (Nat.le_refl _) _⟩
  exact results_cell_row Tryd.results64 _ _ w.heap.size 23 _ (0, 0) _ rfl (setRow_heap _ _ _ _ _ _ hrs) Tryd.underlying23 rfl hinf

set_option maxRecDepth 100000 in
set_option maxHeartbeats 4000000 in
/-- Of returns the digest of the bytes of all parts. -/
theorem of_any (ls : List (List Int)) (pa : Option Addr) (pcap : Nat) (w : World) (hR : Roots w) (hparts : ∀ g, w.heap.size ≤ g → PartsAt w g pa ls) (hn : ls.length < 1152921504606846976) (hm : ls.flatten.length < 1152921504606846976) :
    Calls Tryd.prog 37 #[.slice pa ls.length pcap] w (Gives (.agg (byteA (shaL ls.flatten))) w) := by
  have HP := Lib.hid hparts
  have HR := Lib.hid hR
  obtain ⟨s0, hs0⟩ : ∃ s0 : HeldW w [(w.heap.size, .cells zero32 23 (0, 0))], w.alloc (.cells zero32 23 (0, 0)) = s0.w := ⟨(HeldW.start w).push _, rfl⟩
  have HS := Lib.hid hs0
  clear hparts hR hs0
  go_enter Tryd.func37, Tryd.ntmps37
  go_wp2_with fail
  rw [HS.out]
  refine (HeldW.makes (s := s0) (new_any _)).mono ?_
  rintro e _ ⟨g, o, rfl, hg, hgb, hi, s1, rfl⟩
  clear HS s0
  have hw := HeldW.takes (s := s1) (write_any g [] ls o pa pcap s1.w hi.out (s1.blocks (_, _) List.mem_cons_self) (by have := HR.out.pos; omega) (HR.out.W s1) ((HP.out g hg).below s1.below) (by omega) (by rw [List.length_nil]; omega)) hg hgb.out
  rw [List.nil_append] at hw
  obtain ⟨T, hT⟩ : ∃ T, ls.flatten.length = T := ⟨_, rfl⟩
  rw [hT] at hw
  clear hgb hi
  go_wp2_with fail
  refine hw.mono ?_
  rintro e _ ⟨rfl, o3, hi3, s3, rfl⟩
  have hd := HeldW.call (s := s3) (sum_any g ls.flatten o3 s3.w hi3.out (s3.blocks (_, _) List.mem_cons_self) (HR.out.W s3) hm)
  have HM := Lib.hid hm
  clear hw hi3 hm hT
  generalize hD : shaL ls.flatten = D at hd
  have hDl : D.length = 32 := by rw [← hD]; exact shaL_length _
  have HD := Lib.hid hD
  clear hD HM
  go_wp2_with fail
  refine hd.mono ?_
  rintro e _ ⟨rfl, s4, rfl⟩
  clear hd s3
  have hrs : s4.w.heap[w.heap.size]? = some (.cells zero32 23 (0, 0)) := s4.blocks (_, _) (by simp)
  have hsz : (byteA D).size = 32 := by rw [byteA_size, hDl]
  have hsr : zero32.size = (byteA D).size := by rw [hsz]; rfl
  have hinf : (Tryd.prog.info? 23).map (·.size) = some (byteA D).size := by rw [hsz]; kernel_rfl
  have hone := byteA_one D
  clear hsz hDl
  go_wp2_with (refine wpList_store_rowTo rfl 23 (.tmp 2) (.tmp 9) rfl rfl w.heap.size (byteA D) rfl rfl 23 zero32 hrs hinf hsr hone ?_)
  refine bodyPost_ret (v := .agg (byteA D)) ?_ rfl ⟨by rw [HD.out], below_setRow s4.below (Nat.le_refl _) _⟩
  exact results_cell_row Tryd.results37 _ _ w.heap.size 23 _ (0, 0) _ rfl (setRow_heap _ _ _ _ _ _ hrs) Tryd.underlying23 rfl hinf
end Go.Proofs.YtdedfjkenbaebaaDoor

/- Format of package sha: the digits of a digest. -/
namespace Go.Proofs.YtdedfjkenbaebaaDoor
open Go.RowKit
set_option linter.unusedVariables false

/-- The digit of a number below 16. -/
def hexD (x : Int) : Int := ([48, 49, 50, 51, 52, 53, 54, 55, 56, 57, 97, 98, 99, 100, 101, 102] : List Int)[x.toNat]?.getD 0
/-- The digits of bytes. -/
def hexL (d : List Int) : List Int := d.flatMap fun b => [hexD (b / 16), hexD (b % 16)]
theorem hexL_succ (d : List Int) {k : Nat} (h : k < d.length) : hexL (d.take (k + 1)) = hexL (d.take k) ++ [hexD (d[k]?.getD 0 / 16), hexD (d[k]?.getD 0 % 16)] := by
  rw [List.take_succ_eq_append_getElem h, List.getElem?_eq_getElem h]
  unfold hexL
  rw [List.flatMap_append]
  simp
theorem hexL_length (d : List Int) : (hexL d).length = 2 * d.length := by
  induction d with
  | nil => rfl
  | cons x d ih => unfold hexL at ih ⊢; rw [List.flatMap_cons, List.length_append, ih, List.length_cons]; simp; omega
theorem lt16 {x : Int} (h0 : 0 ≤ x) (h1 : x < 16) : x = 0 ∨ x = 1 ∨ x = 2 ∨ x = 3 ∨ x = 4 ∨ x = 5 ∨ x = 6 ∨ x = 7 ∨ x = 8 ∨ x = 9 ∨ x = 10 ∨ x = 11 ∨ x = 12 ∨ x = 13 ∨ x = 14 ∨ x = 15 := by omega
theorem index_hex {x : Int} (h0 : 0 ≤ x) (h1 : x < 16) (w : World) : (Instr.index 9 (.string ⟨#[48, 49, 50, 51, 52, 53, 54, 55, 56, 57, 97, 98, 99, 100, 101, 102]⟩) (.int .u8 x)).run Tryd.prog w = .ok (.int .u8 (hexD x)) w := by
  rcases lt16 h0 h1 with rfl | rfl | rfl | rfl | rfl | rfl | rfl | rfl | rfl | rfl | rfl | rfl | rfl | rfl | rfl | rfl <;> kernel_rfl

theorem index_dig (d : List Int) (hd : d.length = 32) {k : Nat} (hk : k < 32) (w : World) : (Instr.index 23 (.agg (byteA d)) (.int .i64 (k : Int))).run Tryd.prog w = .ok (.int .u8 (d[k]?.getD 0)) w := by
  have hu : Tryd.prog.underlying 23 = some (.array 32 5) := Tryd.underlying23
  have hsz : ∀ w, (sizeOf 5).run Tryd.prog w = .ok 1 w := fun w => by kernel_rfl
  have hag : ∀ w, (isAgg 5).run Tryd.prog w = .ok false w := fun w => by kernel_rfl
  have hg := byteA_get d (i := k) (by omega)
  simp [Instr.index, asIntOf, run_underlying hu, Sem.run_bind, hk, hsz, part, hag, hg, Result.andThen]

theorem shaL_bytes (m : List Int) : ∀ i, i < 32 → 0 ≤ (shaL m)[i]?.getD 0 ∧ (shaL m)[i]?.getD 0 < 256 := fun i hi => by
  unfold shaL digL
  rw [List.getElem?_map, List.getElem?_range hi]
  simp only [Option.map_some, Option.getD_some, digB]
  omega
end Go.Proofs.YtdedfjkenbaebaaDoor

/- The digests of no bytes and of abc, reckoned by the kernel. -/
namespace Go.Proofs.YtdedfjkenbaebaaDoor
set_option linter.unusedVariables false
set_option maxRecDepth 1000000 in
theorem sha_empty : shaL [] = [227, 176, 196, 66, 152, 252, 28, 20, 154, 251, 244, 200, 153, 111, 185, 36, 39, 174, 65, 228, 100, 155, 147, 76, 164, 149, 153, 27, 120, 82, 184, 85] := by decide +kernel
set_option maxRecDepth 1000000 in
theorem sha_abc : shaL [97, 98, 99] = [186, 120, 22, 191, 143, 1, 207, 234, 65, 65, 64, 222, 93, 174, 34, 35, 176, 3, 97, 163, 150, 23, 122, 156, 180, 16, 255, 97, 242, 0, 21, 173] := by decide +kernel
end Go.Proofs.YtdedfjkenbaebaaDoor

/- The example of the chapter holds. -/
namespace Go.Proofs.YtdedfjkenbaebaaDoor
open Go.RowKit
set_option linter.unusedVariables false

theorem conv_abc (w : World) : (convert 22 22 (.slice (some ⟨w.heap.size, 0, none⟩) 3 3)).run Tryd.prog (w.alloc (.cells #[.int .u8 97, .int .u8 98, .int .u8 99] 5)) = .ok (.slice (some ⟨w.heap.size, 0, none⟩) 3 3) (w.alloc (.cells #[.int .u8 97, .int .u8 98, .int .u8 99] 5 (3, 4))) :=
  Lib.run_convert_bytes_const w 22 5 #[.int .u8 97, .int .u8 98, .int .u8 99] 3 3 Tryd.underlying22 Tryd.underlying5

end Go.Proofs.YtdedfjkenbaebaaDoor

/- Two equal digests compare as equal; what the methods of a nil hash return; bytes appended to a new slice. -/
namespace Go.Proofs.YtdedfjkenbaebaaDoor
open Go.RowKit
set_option linter.unusedVariables false

theorem equal_same (D : List Int) (hD : D.length = 32) (w : World) : (Op.equalIn 10000 23 (.agg (byteA D)) (.agg (byteA D))).run Tryd.prog w = .ok true w := by
  have ht : Tryd.prog.underlying 23 = some (.array 32 5) := Tryd.underlying23
  have he : Tryd.prog.underlying 5 = some (.int .u8) := Tryd.underlying5
  have hsz : ∀ w, (sizeOf 5).run Tryd.prog w = .ok 1 w := fun w => by kernel_rfl
  have hag : ∀ w, (isAgg 5).run Tryd.prog w = .ok false w := fun w => by kernel_rfl
  rw [show (10000 : Nat) = 9998 + 2 from rfl, Op.equalIn]
  simp only [Sem.run_bind, run_underlying ht, Result.andThen_ok, hsz, Std.Legacy.Range.forIn_eq_forIn_range', Std.Legacy.Range.size, Nat.sub_zero, Nat.add_sub_cancel, Nat.div_one]
  have hl : ∀ i ∈ List.range' 0 32 1, i < 32 := fun i hi => by simpa using (List.mem_range'_1.1 hi).2
  generalize List.range' 0 32 1 = l at hl ⊢
  induction l with
  | nil => simp
  | cons i l ih =>
    have hi : i < 32 := hl i (by simp)
    have px : (part 5 (byteA D) (i * 1)).run Tryd.prog w = .ok (.int .u8 (D[i]?.getD 0)) w := by
      rw [Nat.mul_one]
      unfold part
      simp only [Sem.run_bind, hag, Result.andThen_ok, byteA_get D (i := i) (by omega)]
      simp
    have pe : (Op.equalIn (9998 + 1) 5 (.int .u8 (D[i]?.getD 0)) (.int .u8 (D[i]?.getD 0))).run Tryd.prog w = .ok true w := by
      rw [run_equalIn_int w 9998 5 .u8 .u8 _ _ he]
      simp
    simp only [List.forIn_cons, Sem.run_bind, px, pe, Result.andThen_ok, Bool.not_true, Bool.false_eq_true, if_false, Sem.run_pure]
    exact ih fun j hj => hl j (by simp [hj])

theorem guard_arr : Tryd.prog.eqGuardType Tryd.prog.depth 23 = false := by kernel_rfl

theorem write_nil (pa : Option Addr) (n cap : Nat) (w : World) : Calls Tryd.prog 63 #[.pointer none, .slice pa n cap] w fun e w' => e = .returned (.int .i64 0) ∧ w' = w := by
  go_enter Tryd.func63, Tryd.ntmps63
  go_wp2
  go_ret
  exact ⟨rfl, rfl⟩
/-- A new digest, its cells under one name. -/
def zeroD : List Int := List.replicate 32 0
theorem zeroD_eq : byteA zeroD = zero32 := rfl
theorem zero_arr (w : World) : (zeroValue 23).run Tryd.prog w = .ok (.agg (byteA zeroD)) w := by kernel_rfl
set_option maxRecDepth 100000 in
theorem sum_nil (w : World) : Calls Tryd.prog 64 #[.pointer none] w (Gives (.agg (byteA zeroD)) w) := by
  have hsz : (byteA zeroD).size = 32 := rfl
  have hinf : (Tryd.prog.info? 23).map (·.size) = some (byteA zeroD).size := by rw [hsz]; kernel_rfl
  have hn : (w.alloc (.cells zero32 23)).heap[w.heap.size]? = some (.cells (byteA zeroD) 23 (0, 0)) := heap_new w (.cells (byteA zeroD) 23 (0, 0)) rfl
  have hone := byteA_one zeroD
  clear hsz
  go_enter Tryd.func64, Tryd.ntmps64
  go_wp2_with (first
    | (refine wpList_buildTo rfl 23 _ rfl (some 6) rfl (byteA zeroD) (by kernel_rfl) ?_)
    | (refine wpList_store_rowTo rfl 23 (.tmp 2) (.tmp 6) rfl rfl w.heap.size (byteA zeroD) rfl rfl 23 (byteA zeroD) hn hinf rfl hone ?_))
  refine bodyPost_ret (v := .agg (byteA zeroD)) ?_ rfl ⟨rfl, below_setRow ((Below.refl _ w).alloc (Nat.le_refl _) _) (Nat.le_refl _) _⟩
  exact results_cell_row Tryd.results64 _ _ w.heap.size 23 _ (0, 0) _ rfl (setRow_heap _ _ _ _ _ _ hn) Tryd.underlying23 rfl hinf

end Go.Proofs.YtdedfjkenbaebaaDoor

/- The table of the constants, out of what the rows list; a slice of bytes that came in, opened. -/
namespace Go.Proofs.YtdedfjkenbaebaaDoor
open Go.ChangeShapes Go.WideShapes Go.RowKit
set_option linter.unusedVariables false

theorem gRoots : Tryd.prog.globalNamed "graft/sha.roots" = some 0 := by kernel_rfl
theorem tRoots : (Tryd.prog.globals[0]?).map (·.type) = some 161 := by kernel_rfl
/-- What the rows list. -/
abbrev laidRoots : List (String × DataW Unit) := [("graft/sha.roots", Rows.laid_graft_sha_roots)]
/-- The door's own heap holds it. -/
theorem door_met (os : Os) (args : Array Value) : laidMetH Tryd.prog laidRoots ((World.doorLaid Tryd.prog 400 os).forCall (fun _ _ => 0) ⟨#[], args, []⟩).memory :=
  laidMetH_of_parts3 (fuel := 8) (laidMet_of_run' 8 (by kernel_rfl) (by kernel_rfl)) (by kernel_rfl) (by kernel_rfl)
theorem roots_laid {W : World} (h : laidMetH Tryd.prog laidRoots W) : Roots W := fun i hi => by
  rw [MakeChecks.laidMetH_plain _ _ _ (by kernel_rfl)] at h
  have hT : Lib.TabIs Tryd.prog W "graft/sha.roots" .u32 rootsL := Lib.tabIs_of_head gRoots tRoots Tryd.underlying161 Tryd.underlying88 (by kernel_rfl) (by kernel_rfl) (rest := []) h
  have := hT.cell gRoots i (by rw [rootsL_length]; exact hi)
  simpa using this

end Go.Proofs.YtdedfjkenbaebaaDoor

/- slices.Clone of bytes. -/
namespace Go.Proofs.YtdedfjkenbaebaaDoor
open Go.RowKit
set_option linter.unusedVariables false

/-- What wpList_append_src wants of a slice that came in. -/
theorem BytesIn.nil2 {w : World} {a : Option Addr} {l : List Int} {cap : Nat} (h : BytesIn w a l cap) {n : Nat} (hn : n = l.length) : a = none → n = 0 ∧ cap = 0 := fun h0 => by
  have := h.nil h0; have := h.len; omega
theorem BytesIn.news {w : World} {a : Option Addr} {l : List Int} {cap : Nat} (h : BytesIn w a l cap) : ∀ ad, a = some ad → ∀ j u, (l.map (Value.int .u8))[j]? = some u → w.cell? (ad.add j) = some u := fun ad had j u hu => by
  have hj := (List.getElem?_eq_some_iff.1 hu).1
  rw [List.length_map] at hj
  obtain ⟨b, o, h1, hc⟩ := h.cells (by omega)
  obtain rfl := Option.some.inj (had.symm.trans h1)
  rw [Addr.add_mid, hc j hj]
  rw [List.getElem?_map] at hu
  obtain ⟨x, hx, rfl⟩ := Option.map_eq_some_iff.1 hu
  rw [hx]; rfl
theorem BytesIn.below {w w' : World} {a : Option Addr} {l : List Int} {cap : Nat} (h : BytesIn w a l cap) (hb : Below w.heap.size w w') : BytesIn w' a l cap := h.W (bs := []) ⟨w', hb, by simp⟩

/-- An owned slice of bytes can be read. -/
theorem OwnW.bytes {w0 : World} {e : TypeId} {v : Value} {l : List Int} (s : OwnW w0 e v (l.map (Value.int .u8))) : ∃ (a : Option Addr) (cap : Nat), v = .slice a l.length cap ∧ BytesIn s.w a l cap := by
  have hl : (l.map (Value.int .u8)).length = l.length := List.length_map _
  rcases s.own.2 with ⟨h1, h0⟩ | ⟨g, cap, cur, hv, hg, hb, hc, hm, _, ht⟩
  · rw [hl] at h0
    obtain rfl := List.eq_nil_of_length_eq_zero h0
    exact ⟨none, 0, h1, by simp, by omega, fun h => absurd h (by simp), fun _ => rfl⟩
  · rw [hl] at hv hc
    subst hv
    refine ⟨_, cap, rfl, hc, by unfold maxLen at hm; omega, fun hp => ⟨g, 0, rfl, fun i hi => ?_⟩, fun h => by cases h⟩
    have hown := s.own.cells (g := g) rfl i (.int .u8 (l[i]?.getD 0)) (by rw [List.getElem?_map, List.getElem?_eq_getElem hi]; rfl)
    rwa [Addr.add_mid] at hown
theorem OwnW.bytesN {w0 : World} {e : TypeId} {v : Value} {l : List Int} (s : OwnW w0 e v (l.map (Value.int .u8))) {n : Nat} (hn : l.length = n) : ∃ (a : Option Addr) (cap : Nat), v = .slice a n cap ∧ BytesIn s.w a l cap := by subst hn; exact s.bytes
/-- A literal of bytes that a string shares. -/
theorem lit_bytes {w : World} {l : List Int} {n : Nat} (hn : l.length = n) (hl : l.length ≤ 9223372036854775807) : BytesIn (w.alloc (.cells (byteA l) 5 (n, n + 1))) (some ⟨w.heap.size, 0, none⟩) l n := by
  subst hn
  exact ⟨Nat.le_refl _, hl, fun _ => ⟨w.heap.size, 0, rfl, fun i hi => by rw [Nat.zero_add, cell_of_row _ w.heap.size _ _ _ _ (World.alloc_heap_new w _), byteA_get l hi]⟩, fun h => by cases h⟩

theorem eq_nil8 (a : Option Addr) (n c : Nat) (w : World) : (binOp .eql 22 (.slice a n c) (.slice none 0 0)).run Tryd.prog w = .ok (.bool a.isNone) w := by
  simp [binOp, run_equal_slice_nil w 22 5 a n c Tryd.underlying22]

set_option maxRecDepth 100000 in
theorem clone8_any (l : List Int) (a : Option Addr) (cap : Nat) (w : World) (hb : BytesIn w a l cap) (hm : l.length ≤ 1000000) : Calls Tryd.prog 96 #[.slice a l.length cap] w (MakesR 5 (l.map (Value.int .u8)) w) := by
  cases a with
  | none =>
    obtain rfl : l = [] := List.eq_nil_of_length_eq_zero (hb.nil2 rfl rfl).1
    obtain rfl : cap = 0 := hb.nil rfl
    have hq := eq_nil8 none 0 0
    clear hb hm
    go_enter Tryd.func96, Tryd.ntmps96
    go_wp2
    go_ret
    exact ⟨_, rfl, ⟨w, Below.refl _ _, World.ownsRow_nil w w.heap.size 5 1⟩, rfl⟩
  | some ad =>
    obtain ⟨E⟩ := elem_of (P := Tryd.prog) (t := 22) (e := 5) (z := .int .u8 0) (n := 1) Tryd.underlying22 (by kernel_rfl) rfl (by omega)
    obtain ⟨so, hso⟩ := own_empty w
    have HSO := Lib.hid hso
    have HSRC := Lib.hid (hb.below so.below).news
    have HML := Lib.hid (show l.length = (l.map (Value.int .u8)).length from (List.length_map _).symm)
    have HLN := Lib.hid (show l.length ≤ 1000000 from hm)
    have hq := eq_nil8 (some ad) l.length cap
    clear hso hb hm
    go_enter Tryd.func96, Tryd.ntmps96
    go_wp2_with (rw [HSO.out]; refine wpList_append_src E so (l.map (Value.int .u8)) (.tmp 5) (.tmp 6) rfl rfl rfl (some ad) l.length cap HML.out rfl (fun h => by cases h) HSRC.out (one_bytes _) (by rw [List.length_nil, List.length_map]; have := HLN.out; omega) ?_; intro v' s')
    go_ret
    exact ⟨_, rfl, s', rfl⟩
end Go.Proofs.YtdedfjkenbaebaaDoor

/- slices.Equal of bytes. -/
namespace Go.Proofs.YtdedfjkenbaebaaDoor
open Go.RowKit
set_option linter.unusedVariables false

/-- Whether two lists of bytes are one, as far as the first k go. -/
theorem getD_take_eq {l m : List Int} {k : Nat} (h : l.take k = m.take k) (hk : k < l.length) (hk2 : k < m.length) (he : l[k]?.getD 0 = m[k]?.getD 0) : l.take (k + 1) = m.take (k + 1) := by
  rw [List.take_succ_eq_append_getElem hk, List.take_succ_eq_append_getElem hk2, h]
  rw [List.getElem?_eq_getElem hk, List.getElem?_eq_getElem hk2] at he
  simp only [Option.getD_some] at he
  rw [he]
set_option maxRecDepth 100000 in
set_option maxHeartbeats 1000000 in
theorem eq8_any (l m : List Int) (a b : Option Addr) (cap cap' : Nat) (w : World) (hl : BytesIn w a l cap) (hm : BytesIn w b m cap') :
    Calls Tryd.prog 11 #[.slice a l.length cap, .slice b m.length cap'] w (Gives (.bool (decide (l = m))) w) := by
  have h1 : l.length ≤ 9223372036854775807 := Nat.le_trans hl.len hl.capb
  have h2 : m.length ≤ 9223372036854775807 := Nat.le_trans hm.len hm.capb
  have HL := Lib.hid hl
  have HM := Lib.hid hm
  clear hl hm
  by_cases hlen : l.length = m.length
  · have HD := Lib.hid hlen
    have HEQ := Lib.hid (show l.length = m.length from hlen)
    obtain ⟨d, hd⟩ : ∃ d, d = decide (l = m) := ⟨_, rfl⟩
    have HDD := Lib.hid hd
    rw [← hd]
    clear hd
    rw [← hlen]
    clear hlen
    go_enter Tryd.func11, Tryd.ntmps11
    go_wp2
    go_loopw [5, 13] (fun _ i wr => ∃ k : Nat, k ≤ l.length ∧ i = .int .i64 k ∧ Hid (l.take k = m.take k) ∧ ∃ s : HeldW w [], wr = s.w) (fun _ i _ => l.length - (intOf i).toNat)
    case atStart => exact ⟨0, by omega, rfl, Lib.hid rfl, HeldW.start w, rfl⟩
    case round =>
      obtain ⟨k, hk, rfl, htk, s, rfl⟩ := hrel
      by_cases hlt : k < l.length
      · obtain ⟨b1, o1, rfl, hc1⟩ := HL.out.cells (by omega)
        obtain ⟨b2, o2, rfl, hc2⟩ := HM.out.cells (by have := HEQ.out; omega)
        have e1 := hc1 k hlt
        have e2 := hc2 k (by have := HEQ.out; omega)
        have c1 : ∀ s : HeldW w [], s.w.cell? ⟨b1, o1 + k, none⟩ = some (.int .u8 (l[k]?.getD 0)) := fun s => (s.below.cell (p := ⟨b1, o1 + k, none⟩) (World.block_lt_of_cell? _ _ e1)).trans e1
        have c2 : ∀ s : HeldW w [], s.w.cell? ⟨b2, o2 + k, none⟩ = some (.int .u8 (m[k]?.getD 0)) := fun s => (s.below.cell (p := ⟨b2, o2 + k, none⟩) (World.block_lt_of_cell? _ _ e2)).trans e2
        clear hc1 hc2 e1 e2
        have HX := Lib.hid (show l[k]?.getD 0 = m[k]?.getD 0 → l.take (k + 1) = m.take (k + 1) from getD_take_eq htk.out hlt (by have := HEQ.out; omega))
        have HY := Lib.hid (show l[k]?.getD 0 ≠ m[k]?.getD 0 → d = false from fun h => by rw [HDD.out]; exact decide_eq_false (fun he => h (by rw [he])))
        generalize l[k]?.getD 0 = x at c1 HX HY
        generalize m[k]?.getD 0 = y at c2 HX HY
        go_wp2
        refine wp_region_class _ _ (by kernel_rfl) (by kernel_rfl) s.below s.blocks (fun hne => ?_)
        clear s
        repeat (go_big_quiet_step (fail))
        refine wpQuiet_nil ?_
        rintro _ ⟨s, rfl⟩
        clear hne c1 c2
        by_cases hxy : x = y
        · have hb : (x != y) = false := by simp [hxy]
          go_wp2
          go_roundw
          case rel => exact ⟨k + 1, by omega, by go_num, Lib.hid (HX.out hxy), s, rfl⟩
          case measure => simp [intOf]; omega
        · have hb : (x != y) = true := by simpa using hxy
          have hdf := HY.out hxy
          subst hdf
          go_wp2
          go_ret
          exact ⟨rfl, s.below⟩
      · obtain rfl : k = l.length := by omega
        have hdt : d = true := by
          rw [HDD.out]
          have h := htk.out
          rw [List.take_length, HEQ.out, List.take_length] at h
          simpa using h
        subst hdt
        go_wp2
        go_ret
        exact ⟨rfl, s.below⟩
  · have hd : decide (l = m) = false := decide_eq_false (fun h => hlen (by rw [h]))
    rw [hd]
    have hne : ((l.length : Int) != (m.length : Int)) = true := by rw [bne_iff_ne]; omega
    clear hd
    generalize l.length = n1 at *
    generalize m.length = n2 at *
    clear HL HM
    go_enter Tryd.func11, Tryd.ntmps11
    go_wp2
    go_ret
    exact ⟨rfl, Below.refl _ _⟩
end Go.Proofs.YtdedfjkenbaebaaDoor

/- Plain mathematics for package extent: the number of pieces, and the pieces. No Go text. -/
namespace Go.Proofs.YtdedfjkenbaebaaDoor.Plain01

/-- How many pieces of a size an extent of a length has (without the greatest number). -/
def cnt (len size : Int) : Int := if len < 1 ∨ size < 1 then 0 else (len - 1) / size + 1

theorem cnt_none {len size : Int} (h : len < 1 ∨ size < 1) : cnt len size = 0 := by unfold cnt; rw [if_pos h]
theorem cnt_some {len size : Int} (h : 1 ≤ len) (h' : 1 ≤ size) : cnt len size = (len - 1) / size + 1 := by unfold cnt; rw [if_neg (by omega)]

theorem div_bd (len size : Int) (h : 1 ≤ len) (h' : 1 ≤ size) : 0 ≤ (len - 1) / size ∧ (len - 1) / size ≤ len - 1 :=
  ⟨Int.ediv_nonneg (by omega) (by omega), Int.ediv_le_self _ (by omega)⟩

theorem cnt_bd (len size : Int) : 0 ≤ cnt len size ∧ (0 ≤ len → cnt len size ≤ len) := by
  by_cases h : len < 1 ∨ size < 1
  · rw [cnt_none h]; omega
  · have := div_bd len size (by omega) (by omega)
    rw [cnt_some (by omega) (by omega)]; omega

/-- The piece of a number. -/
def piece (off len size : Int) (i : Nat) : Int × Int := (off + (i : Int) * size, min size (len - (i : Int) * size))

/-- A number below the count times the size lies below the length. -/
theorem mul_lt {len size : Int} {i : Nat} (h : (i : Int) < cnt len size) : 1 ≤ len ∧ 1 ≤ size ∧ 0 ≤ (i : Int) * size ∧ (i : Int) * size ≤ len - 1 := by
  by_cases hc : len < 1 ∨ size < 1
  · rw [cnt_none hc] at h; omega
  · rw [cnt_some (by omega) (by omega)] at h
    refine ⟨by omega, by omega, Int.mul_nonneg (by omega) (by omega), ?_⟩
    have h1 : (i : Int) * size ≤ (len - 1) / size * size := Int.mul_le_mul_of_nonneg_right (by omega) (by omega)
    have h2 := Int.ediv_mul_le (len - 1) (b := size) (by omega)
    omega

theorem piece_full {off len size : Int} {i : Nat} (h : size ≤ len - (i : Int) * size) : piece off len size i = (off + (i : Int) * size, size) := by unfold piece; rw [Int.min_eq_left h]
theorem piece_rest {off len size : Int} {i : Nat} (h : len - (i : Int) * size ≤ size) : piece off len size i = (off + (i : Int) * size, len - (i : Int) * size) := by unfold piece; rw [Int.min_eq_right h]

/-- How many pieces Split returns. -/
def nsp (len size : Int) : Nat := if 1048576 < cnt len size then 0 else (cnt len size).toNat
theorem nsp_big {len size : Int} (h : 1048576 < cnt len size) : nsp len size = 0 := by unfold nsp; rw [if_pos h]
theorem nsp_few {len size : Int} (h : cnt len size ≤ 1048576) : nsp len size = (cnt len size).toNat := by unfold nsp; rw [if_neg (by omega)]

end Go.Proofs.YtdedfjkenbaebaaDoor.Plain01

/- Extents: values, rows, End and Valid. -/
namespace Go.Proofs.YtdedfjkenbaebaaDoor
open Go.RowKit Go.Shelf Go.Proofs.YtdedfjkenbaebaaDoor.Plain01

abbrev extV (x : Int × Int) : Value := .agg #[.int .i64 x.1, .int .i64 x.2]

/-- A row of n extents in block b from cell o on. -/
def ExtRow (w : World) (b o n : Nat) (f : Nat → Int × Int) : Prop := ∀ i, i < n → w.cell? ⟨b, o + i * 2, none⟩ = some (.int .i64 (f i).1) ∧ w.cell? ⟨b, o + i * 2 + 1, none⟩ = some (.int .i64 (f i).2)

theorem ExtRow.below {w w' : World} {B b o n : Nat} {f : Nat → Int × Int} (h : ExtRow w b o n f) (hb : Below B w w') (hlt : b < B) : ExtRow w' b o n f := fun i hi =>
  ⟨(hb.cell (p := ⟨b, _, none⟩) hlt).trans (h i hi).1, (hb.cell (p := ⟨b, _, none⟩) hlt).trans (h i hi).2⟩

theorem end_any (off len : Int) (hoff : 0 ≤ off) (hlen : 0 ≤ len) (hsum : off + len ≤ 4611686018427387903) (w : World) :
    Calls Tryd.prog 48 #[extV (off, len)] w fun e w' => e = .returned (.int .i64 (off + len)) ∧ w' = w.alloc (.cells #[.int .i64 off, .int .i64 len] 71) := by
  go_enter Tryd.func48, Tryd.ntmps48
  go_wp2
  go_ret
  exact ⟨rfl, rfl⟩

/-- The extent is valid. -/
def okE (x : Int × Int) : Bool := decide (0 ≤ x.1 ∧ 0 ≤ x.2 ∧ x.1 + x.2 ≤ 4611686018427387903)
theorem okE_iff {x : Int × Int} : okE x = true ↔ 0 ≤ x.1 ∧ 0 ≤ x.2 ∧ x.1 + x.2 ≤ 4611686018427387903 := by simp [okE]

/-- An int of 64 bits. -/
def I64 (a : Int) : Prop := -9223372036854775808 ≤ a ∧ a ≤ 9223372036854775807

theorem valid_any (off len : Int) (h0 : I64 off) (h1 : I64 len) (w : World) :
    Calls Tryd.prog 83 #[extV (off, len)] w fun e w' => e = .returned (.bool (okE (off, len))) ∧ w' = w.alloc (.cells #[.int .i64 off, .int .i64 len] 71) := by
  unfold I64 at h0 h1
  by_cases c1 : 0 ≤ off
  · by_cases c2 : 0 ≤ len
    · by_cases c3 : off ≤ 4611686018427387903 - len
      · have e : okE (off, len) = true := by rw [okE_iff]; simp; omega
        go_enter Tryd.func83, Tryd.ntmps83
        go_wp2
        go_ret
        exact ⟨by first | rfl | (rw [e]; rfl), rfl⟩
      · have e : okE (off, len) = false := by rw [Bool.eq_false_iff, Ne, okE_iff]; simp; omega
        go_enter Tryd.func83, Tryd.ntmps83
        go_wp2
        go_ret
        exact ⟨by first | rfl | (rw [e]; rfl), rfl⟩
    · have e : okE (off, len) = false := by rw [Bool.eq_false_iff, Ne, okE_iff]; simp; omega
      go_enter Tryd.func83, Tryd.ntmps83
      go_wp2
      go_ret
      exact ⟨by first | rfl | (rw [e]; rfl), rfl⟩
  · have e : okE (off, len) = false := by rw [Bool.eq_false_iff, Ne, okE_iff]; simp; omega
    go_enter Tryd.func83, Tryd.ntmps83
    go_wp2
    go_ret
    exact ⟨by first | rfl | (rw [e]; rfl), rfl⟩

end Go.Proofs.YtdedfjkenbaebaaDoor

/- The functions count, pieces and Split of package extent: what they return at every valid extent and every size. -/
namespace Go.Proofs.YtdedfjkenbaebaaDoor
open Go.RowKit Go.Shelf Go.Proofs.YtdedfjkenbaebaaDoor.Plain01
attribute [local go_sem] Oper.semAt_some

theorem ret_int {k : IntKind} {a b : Int} (h : a = b) : Ending.returned (.int k a) = .returned (.int k b) := by rw [h]

/-- What has come when k rounds are over. -/
def upto {α : Type} (f : Nat → α) (k : Nat) : List α := (List.range k).map f
theorem upto_succ {α : Type} (f : Nat → α) (k : Nat) : upto f (k + 1) = upto f k ++ [f k] := by simp [upto, List.range_succ]
theorem upto_length {α : Type} (f : Nat → α) (k : Nat) : (upto f k).length = k := by simp [upto]

/-- What a round that goes on keeps: the two captured boxes. -/
def KpBoxes (Be Bs : Nat) (A B : World) : Prop := B.heap[Be]? = A.heap[Be]? ∧ B.heap[Bs]? = A.heap[Bs]?

end Go.Proofs.YtdedfjkenbaebaaDoor
