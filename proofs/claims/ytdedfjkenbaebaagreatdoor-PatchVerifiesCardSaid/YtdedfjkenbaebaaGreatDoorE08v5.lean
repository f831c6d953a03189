import Derived.Test.YtdedfjkenbaebaaGreatDoorE08v4
import Derived.Laws.BytesString
import Derived.Test.YtdedfjkenbaebaaGreatDoorE08v2
import Derived.Lib.SlBytesConst
import Derived.Laws.StructEq
import Derived.Laws.AppendOwnNone
import Derived.Test.YtdedfjkenbaebaaGreatDoorRows
import Derived.ProofKit
import Derived.OpenShut
import Derived.ChangeOld
import Derived.LaidMore
import Derived.MakeChecks
import Derived.Stop.Joined
import Derived.Lib.LaidTab
import Derived.Lib.SmallJoins
import Derived.Deep.QuietTactic
import Derived.BigQuiet
import Derived.Outline
import Derived.Shelf.Abstract
import Derived.WalkKit
import Derived.OwnWalk
import Derived.Lib.Hide
import Derived.Test.YtdedfjkenbaebaaGreatDoorE08v1
import Derived.Test.YtdedfjkenbaebaaGreatDoorProg
import Derived.Test.YtdedfjkenbaebaaGreatDoorChecked
import Derived.RangeFuncBox
import Derived.RangeFuncLeaves
import Derived.RangeFuncNested
import Derived.OwnWalkIn
import Derived.TacticsInMore
import Derived.LoopNIn
import Derived.LoopIn
import Derived.Maps.AppendAt
import Derived.Deep.DeepMust
/- digest of package sha: the bytes of the words of a state. -/
namespace Go.Proofs.YtdedfjkenbaebaaGreatDoor
open Go.RowKit
set_option linter.unusedVariables false

/-- Byte j of a digest. -/
def digB (v : V8) (j : Nat) : Int := v.at (j / 4) / 2 ^ (24 - 8 * (j % 4)) % 256
/-- The first k bytes of a digest. -/
def digL (v : V8) (k : Nat) : List Int := (List.range k).map (digB v)
theorem digL_length (v : V8) (k : Nat) : (digL v k).length = k := by simp [digL]
/-- The cells of a digest while they come. -/
def digK (v : V8) (k : Nat) : List Int := digL v k ++ List.replicate (32 - k) 0
theorem digK_length (v : V8) {k : Nat} (h : k ≤ 32) : (digK v k).length = 32 := by unfold digK; rw [List.length_append, digL_length, List.length_replicate]; omega
theorem digK_set (v : V8) {k : Nat} (h : k < 32) : (digK v k).set k (digB v k) = digK v (k + 1) := by
  unfold digK
  obtain ⟨n, hn⟩ : ∃ n, 32 - k = n + 1 := ⟨31 - k, by omega⟩
  rw [hn, show 32 - (k + 1) = n by omega, List.set_append_right _ _ (by rw [digL_length]; omega), digL_length, Nat.sub_self, List.replicate_succ, List.set_cons_zero]
  unfold digL
  rw [List.range_succ, List.map_append]
  simp
theorem digK_end (v : V8) : digK v 32 = digL v 32 := by unfold digK; simp

theorem digB_at (v : V8) (k : Nat) {j : Nat} (hj : j < 4) : v.at k / 2 ^ (24 - 8 * j) % 256 = digB v (4 * k + j) := by
  unfold digB; rw [show (4 * k + j) / 4 = k by omega, show (4 * k + j) % 4 = j by omega]
abbrev dig0 (w : World) (v : V8) (k : Nat) : List (Nat × Obj) := [(w.heap.size + 1, .cells (byteA (digK v k)) 24 (0, 0)), (w.heap.size, .cells (byteA (digK v 0)) 24 (0, 0))]
theorem digStart (v : V8) (w : World) : ∃ s : HeldW w (dig0 w v 0), s.w = (w.alloc (.cells (byteA (digK v 0)) 24)).alloc (.cells (byteA (digK v 0)) 24) :=
  ⟨⟨_, ((Below.refl _ w).alloc (Nat.le_refl _) _).alloc (by simp) _, List.forall_mem_cons.2 ⟨heap_new _ _ (by simp), all1 (heap_old (heap_new _ _ rfl) _)⟩⟩, rfl⟩

set_option maxRecDepth 100000 in
set_option maxHeartbeats 4000000 in
theorem digest_any (h : Nat) (v : V8) (r : List Int) (n : Int) (w : World) (ho : w.heap[h]? = some (hashO v r n)) :
    Calls Tryz.prog 106 #[.pointer (some ⟨h, 0, none⟩)] w (Gives (.agg (byteA (digL v 32))) w) := by
  have HO := Lib.hid ho
  have hhw := (Array.getElem?_eq_some_iff.1 ho).1
  clear ho
  go_enter Tryz.func106, Tryz.ntmps106
  go_wp2
  go_loopw [4, 5, 6, 8, 14] (fun _ _ _ i _ wr => ∃ k : Nat, k ≤ 8 ∧ i = .int .i64 k ∧ ∃ s : HeldW w (dig0 w v (4 * k)), wr = s.w) (fun _ _ _ i _ _ => 8 - (intOf i).toNat)
  case atStart =>
    obtain ⟨s, hs⟩ := digStart v w
    exact ⟨0, by omega, rfl, s, by rw [hs]; rfl⟩
  case round =>
    obtain ⟨k, hk, rfl, s, rfl⟩ := hrel
    by_cases hlt : k < 8
    · have hc : ∀ s : HeldW w (dig0 w v (4 * k)), s.w.cell? ⟨h, k, none⟩ = some (.int .u32 (v.at k)) := fun s => by
        rw [s.below.cell (p := ⟨h, k, none⟩) hhw, cell_of HO.out, hash_at v r n hlt]
      go_wp2
      refine wp_region_class _ _ (by kernel_rfl) (by kernel_rfl) s.below s.blocks (fun hne => ?_)
      clear s
      repeat (go_big_quiet_step (fail))
      refine wpQuiet_nil ?_
      rintro _ ⟨s, rfl⟩
      clear hne hc
      go_wp2
      go_loopw [6, 14] (fun _ i wr => ∃ j : Nat, j ≤ 4 ∧ i = .int .i64 j ∧ ∃ s : HeldW w (dig0 w v (4 * k + j)), wr = s.w) (fun _ i _ => 4 - (intOf i).toNat)
      case atStart => exact ⟨0, by omega, rfl, s, rfl⟩
      case round =>
        clear s
        obtain ⟨j, hj, rfl, s, rfl⟩ := hrel
        have hblk : s.w.heap[w.heap.size + 1]? = some (.cells (byteA (digK v (4 * k + j))) 24 (0, 0)) := s.blocks (_, _) List.mem_cons_self
        by_cases hlj : j < 4
        · have hcell : s.w.cell? ⟨w.heap.size + 1, 4 * k + j, none⟩ = some (.int .u8 ((digK v (4 * k + j))[4 * k + j]?.getD 0)) := by
            rw [cell_of hblk, byteA_get _ (by rw [digK_length _ (by omega)]; omega)]
          have hfree := free_of hblk (4 * k + j)
          have HK := Lib.hid (show (byteA (digK v (4 * k + j))).setIfInBounds (4 * k + j) (.int .u8 (v.at k / 2 ^ (24 - 8 * j) % 256)) = byteA (digK v (4 * k + (j + 1))) by
            rw [digB_at v k hlj, byteA_set, digK_set v (by omega)]; rfl)
          clear hblk
          go_wp2
          go_roundw
          case rel => exact ⟨j + 1, by omega, by go_num, s.store (by simp) (by simp) HK.out, rfl⟩
          case measure => simp [intOf]; omega
        · obtain rfl : j = 4 := by omega
          clear hblk
          go_wp2
          go_roundw
          case rel => exact ⟨k + 1, by omega, by go_num, s, rfl⟩
          case measure => simp [intOf]; omega
    · obtain rfl : k = 8 := by omega
      have hst : s.w.heap[w.heap.size + 1]? = some (.cells (byteA (digK v 32)) 24 (0, 0)) := s.blocks (_, _) List.mem_cons_self
      have hrs : s.w.heap[w.heap.size]? = some (.cells (byteA (digK v 0)) 24 (0, 0)) := s.blocks (_, _) (List.mem_cons_of_mem _ List.mem_cons_self)
      rw [digK_end] at hst
      have hsz : (byteA (digL v 32)).size = 32 := by rw [byteA_size, digL_length]
      have hsr : (byteA (digK v 0)).size = (byteA (digL v 32)).size := by rw [hsz, byteA_size, digK_length _ (by omega)]
      have hinf : (Tryz.prog.info? 24).map (·.size) = some (byteA (digL v 32)).size := by rw [hsz]; kernel_rfl
      have hone := byteA_one (digL v 32)
      clear hsz
      go_wp2_with (first
        | (refine wpList_load_row rfl 24 (.tmp 3) rfl (w.heap.size + 1) rfl 24 _ (0, 0) _ hst Tryz.underlying24 rfl hinf ?_)
        | (refine wpList_store_rowTo rfl 24 (.tmp 2) (.tmp 30) rfl rfl w.heap.size (byteA (digL v 32)) rfl rfl 24 (byteA (digK v 0)) hrs hinf hsr hone ?_))
      refine bodyPost_ret (v := .agg (byteA (digL v 32))) ?_ rfl ⟨rfl, below_setRow s.below (Nat.le_refl _) _⟩
      exact results_cell_row Tryz.results106 _ _ w.heap.size 24 _ (0, 0) _ rfl (setRow_heap _ _ _ _ _ _ hrs) Tryz.underlying24 rfl hinf
end Go.Proofs.YtdedfjkenbaebaaGreatDoor

/- Sum and Of of package sha. -/
namespace Go.Proofs.YtdedfjkenbaebaaGreatDoor
open Go.RowKit
set_option linter.unusedVariables false

/-- The digest of bytes. -/
def shaL (m : List Int) : List Int := digL (stF (byteAt (m ++ padL m.length)) ((m ++ padL m.length).length / 64)) 32
theorem shaL_length (m : List Int) : (shaL m).length = 32 := digL_length _ _
theorem padL_length (n : Nat) : (padL n).length = zerosOf n + 9 := padK_length _ _ (by omega)

/-- A new digest. -/
abbrev zero32 : Array Value := #[Value.int .u8 0, Value.int .u8 0, Value.int .u8 0, Value.int .u8 0, Value.int .u8 0, Value.int .u8 0, Value.int .u8 0, Value.int .u8 0, Value.int .u8 0, Value.int .u8 0, Value.int .u8 0, Value.int .u8 0, Value.int .u8 0, Value.int .u8 0, Value.int .u8 0, Value.int .u8 0, Value.int .u8 0, Value.int .u8 0, Value.int .u8 0, Value.int .u8 0, Value.int .u8 0, Value.int .u8 0, Value.int .u8 0, Value.int .u8 0, Value.int .u8 0, Value.int .u8 0, Value.int .u8 0, Value.int .u8 0, Value.int .u8 0, Value.int .u8 0, Value.int .u8 0, Value.int .u8 0]
theorem two_blocks (w : World) (o1 o2 : Obj) : ∃ s : HeldW w [(w.heap.size + 1, o2), (w.heap.size, o1)], s.w = (w.alloc o1).alloc o2 :=
  ⟨⟨_, ((Below.refl _ w).alloc (Nat.le_refl _) _).alloc (by simp) _, List.forall_mem_cons.2 ⟨heap_new _ _ (by simp), all1 (heap_old (heap_new _ _ rfl) _)⟩⟩, rfl⟩
theorem Roots.W {w : World} {bs : List (Nat × Obj)} (hr : Roots w) (s : HeldW w bs) : Roots s.w := hr.below s.below

theorem Src.below {w w' : World} {h : Nat} {a : Option Addr} {l : List Int} (hs : Src w h a l) (hb : Below w.heap.size w w') : Src w' h a l := fun hp => by
  obtain ⟨b, o, rfl, hbh, hc⟩ := hs hp
  exact ⟨b, o, rfl, hbh, fun i hi => by rw [← hc i hi]; exact hb.cell (p := ⟨b, o + i, none⟩) (World.block_lt_of_cell? w _ (hc i hi))⟩
theorem PartsAt.below {w w' : World} {h : Nat} {pa : Option Addr} {ls : List (List Int)} (hs : PartsAt w h pa ls) (hb : Below w.heap.size w w') : PartsAt w' h pa ls := fun hp => by
  obtain ⟨b, o, rfl, hbh, hc⟩ := hs hp
  refine ⟨b, o, rfl, hbh, fun i hi => ?_⟩
  obtain ⟨a, cap, h1, h2, h3, h4⟩ := hc i hi
  exact ⟨a, cap, by rw [← h1]; exact hb.cell (p := ⟨b, o + i, none⟩) (World.block_lt_of_cell? w _ h1), h2, h3, h4.below hb⟩
theorem pad_held {P : Program} {f : FuncId} {args : Array Value} {n k : Nat} {t : TypeId} {l : List Int} {w0 : World} {bs : List (Nat × Obj)} {s : HeldW w0 bs}
    (hc : Calls P f args s.w fun e w' => e = .returned (.slice (some ⟨s.w.heap.size, 0, none⟩) n k) ∧ Below s.w.heap.size s.w w' ∧ w'.heap[s.w.heap.size]? = some (.cells (byteA l) t (0, 0))) :
    Calls P f args s.w fun e w'' => ∃ g, e = .returned (.slice (some ⟨g, 0, none⟩) n k) ∧ w0.heap.size ≤ g ∧ Hid (∀ p ∈ bs, p.1 ≠ g) ∧ ∃ s' : HeldW w0 ((g, .cells (byteA l) t (0, 0)) :: bs), w'' = s'.w :=
  hc.mono fun _ w'' ⟨he, hb, ho⟩ => ⟨_, he, s.below.size, fun p hp e => by have := (Array.getElem?_eq_some_iff.1 (s.blocks p hp)).1; omega,
    ⟨w'', s.below.trans (hb.mono s.below.size), List.forall_mem_cons.2 ⟨ho, fun p hp => (hb.block _ (Array.getElem?_eq_some_iff.1 (s.blocks p hp)).1).trans (s.blocks p hp)⟩⟩, rfl⟩

set_option maxRecDepth 100000 in
set_option maxHeartbeats 4000000 in
theorem sum_any (h : Nat) (m : List Int) (o : Obj) (w : World) (hinv : Inv m o) (ho : w.heap[h]? = some o) (hR : Roots w) (hm : m.length < 1152921504606846976) :
    Calls Tryz.prog 61 #[.pointer (some ⟨h, 0, none⟩)] w (Gives (.agg (byteA (shaL m))) w) := by
  have hinv0 := hinv
  obtain ⟨r, hr, hrm, rfl⟩ := hinv
  have HI := Lib.hid hinv0
  have hsz := hash_size (stF (byteAt m) (m.length / 64)) r m.length hr
  have hone := hash_one (stF (byteAt m) (m.length / 64)) r m.length
  have hinf : (Tryz.prog.info? 152).map (·.size) = some (hashA (stF (byteAt m) (m.length / 64)) r m.length).size := by rw [hsz]; kernel_rfl
  have hzs : zeroA.size = (hashA (stF (byteAt m) (m.length / 64)) r m.length).size := by rw [hsz]; rfl
  have c72 : w.cell? ⟨h, 72, none⟩ = some (.int .i64 m.length) := inv_len hinv0 ho
  have hhw := (Array.getElem?_eq_some_iff.1 ho).1
  clear hrm hr hsz hinv0
  dsimp only [hashO] at ho HI
  generalize hashA (stF (byteAt m) (m.length / 64)) r m.length = A at *
  have hz := zero_hash
  have HR := Lib.hid hR
  have hgo := heap_old ho (.cells zero32 24 (0, 0))
  obtain ⟨s0, hs0⟩ := two_blocks w (.cells zero32 24 (0, 0)) (.cells zeroA 152 (0, 0))
  have hn : ((w.alloc (.cells zero32 24 (0, 0))).alloc (.cells zeroA 152 (0, 0))).heap[w.heap.size + 1]? = some (.cells zeroA 152 (0, 0)) := heap_new _ _ (by simp)
  obtain ⟨s1, hs1⟩ : ∃ s1 : HeldW w [(w.heap.size + 1, .cells A 152 (0, 0)), (w.heap.size, .cells zero32 24 (0, 0))], ((w.alloc (.cells zero32 24 (0, 0))).alloc (.cells zeroA 152 (0, 0))).setRow (w.heap.size + 1) A = s1.w :=
    ⟨s0.row (by simp) (by simp), by rw [← hs0]; rfl⟩
  have hcw : (((w.alloc (.cells zero32 24 (0, 0))).alloc (.cells zeroA 152 (0, 0))).setRow (w.heap.size + 1) A).cell? ⟨h, 72, none⟩ = some (.int .i64 m.length) := by
    rw [hs1, s1.below.cell (p := ⟨h, 72, none⟩) hhw, c72]
  have HS := Lib.hid hs1
  clear hR ho hs0 c72 hs1 s0
  go_enter Tryz.func61, Tryz.ntmps61
  go_wp2_with (first
    | (refine wpList_load_row rfl 152 (.tmp 8) rfl h rfl 152 _ (0, 0) _ hgo Tryz.underlying152 rfl hinf ?_)
    | (refine wpList_store_rowTo rfl 152 (.tmp 3) (.tmp 9) rfl rfl (w.heap.size + 1) A rfl rfl 152 zeroA hn hinf hzs hone ?_))
  rw [HS.out]
  clear hcw hgo hn HS hinf hone hzs hz
  refine (pad_held (padding_any m.length s1.w (by omega))).mono ?_
  rintro e _ ⟨g, rfl, hg, hgb, s2, rfl⟩
  clear s1
  have hpb := s2.blocks (_, _) List.mem_cons_self
  have ht := take_any (w.heap.size + 1) m (padL m.length) (.cells A 152 (0, 0)) (some ⟨g, 0, none⟩) (zerosOf m.length + 9) s2.w HI.out (s2.blocks (_, _) (by simp)) (by omega) (HR.out.W s2)
    (fun _ => ⟨g, 0, rfl, fun e => hgb.out _ List.mem_cons_self e.symm, fun i hi => by rw [Nat.zero_add, cell_of hpb, byteA_get _ hi]⟩) (by rw [padL_length]; omega) (by unfold zerosOf; omega) (by rw [padL_length]; unfold zerosOf; omega)
  rw [padL_length] at ht
  have ht2 := HeldW.takes (s := s2.sub (bs' := [(w.heap.size + 1, .cells A 152 (0, 0)), (w.heap.size, .cells zero32 24 (0, 0))]) (by simp)) ht (by simp) (by simp)
  clear ht hpb
  go_wp2_with fail
  refine ht2.mono ?_
  rintro e _ ⟨rfl, o3, hi3, s3, rfl⟩
  clear ht2 s2
  obtain ⟨r3, hr3, _, rfl⟩ := hi3.out
  have hd := HeldW.call (s := s3) (digest_any (w.heap.size + 1) _ r3 _ s3.w (s3.blocks (_, _) List.mem_cons_self))
  change Calls _ _ _ _ (fun e w'' => e = .returned (.agg (byteA (shaL m))) ∧ _) at hd
  clear hi3 hr3
  generalize hD : shaL m = D at hd ⊢
  have hDl : D.length = 32 := by rw [← hD]; exact shaL_length m
  go_wp2_with fail
  refine hd.mono ?_
  rintro e _ ⟨rfl, s4, rfl⟩
  clear hd s3
  have hrs : s4.w.heap[w.heap.size]? = some (.cells zero32 24 (0, 0)) := s4.blocks (_, _) (by simp)
  have hsz : (byteA D).size = 32 := by rw [byteA_size, hDl]
  have hsr : zero32.size = (byteA D).size := by rw [hsz]; rfl
  have hinf : (Tryz.prog.info? 24).map (·.size) = some (byteA D).size := by rw [hsz]; kernel_rfl
  have hone := byteA_one D
  clear hsz hDl
  go_wp2_with (refine wpList_store_rowTo rfl 24 (.tmp 2) (.tmp 17) rfl rfl w.heap.size (byteA D) rfl rfl 24 zero32 hrs hinf hsr hone ?_)
  refine bodyPost_ret (v := .agg (byteA D)) ?_ rfl ⟨by rw [hD], below_setRow s4.below (Nat.le_refl _) _⟩
  exact results_cell_row Tryz.results61 _ _ w.heap.size 24 _ (0, 0) _ rfl (setRow_heap _ _ _ _ _ _ hrs) Tryz.underlying24 rfl hinf

set_option maxRecDepth 100000 in
set_option maxHeartbeats 4000000 in
/-- Of returns the digest of the bytes of all parts. -/
theorem of_any (ls : List (List Int)) (pa : Option Addr) (pcap : Nat) (w : World) (hR : Roots w) (hparts : ∀ g, w.heap.size ≤ g → PartsAt w g pa ls) (hn : ls.length < 1152921504606846976) (hm : ls.flatten.length < 1152921504606846976) :
    Calls Tryz.prog 24 #[.slice pa ls.length pcap] w (Gives (.agg (byteA (shaL ls.flatten))) w) := by
  have HP := Lib.hid hparts
  have HR := Lib.hid hR
  obtain ⟨s0, hs0⟩ : ∃ s0 : HeldW w [(w.heap.size, .cells zero32 24 (0, 0))], w.alloc (.cells zero32 24 (0, 0)) = s0.w := ⟨(HeldW.start w).push _, rfl⟩
  have HS := Lib.hid hs0
  clear hparts hR hs0
  go_enter Tryz.func24, Tryz.ntmps24
  go_wp2_with fail
  rw [HS.out]
  refine (HeldW.makes (s := s0) (new_any _)).mono ?_
  rintro e _ ⟨g, o, rfl, hg, hgb, hi, s1, rfl⟩
  clear HS s0
  have hw := HeldW.takes (s := s1) (write_any g [] ls o pa pcap s1.w hi.out (s1.blocks (_, _) List.mem_cons_self) (by have := HR.out.pos; omega) (HR.out.W s1) ((HP.out g hg).below s1.below) (by omega) (by rw [List.length_nil]; omega)) hg hgb.out
  rw [List.nil_append] at hw
  obtain ⟨T, hT⟩ : ∃ T, ls.flatten.length = T := ⟨_, rfl⟩
  rw [hT] at hw
  clear hgb hi
  go_wp2_with fail
  refine hw.mono ?_
  rintro e _ ⟨rfl, o3, hi3, s3, rfl⟩
  have hd := HeldW.call (s := s3) (sum_any g ls.flatten o3 s3.w hi3.out (s3.blocks (_, _) List.mem_cons_self) (HR.out.W s3) hm)
  have HM := Lib.hid hm
  clear hw hi3 hm hT
  generalize hD : shaL ls.flatten = D at hd
  have hDl : D.length = 32 := by rw [← hD]; exact shaL_length _
  have HD := Lib.hid hD
  clear hD HM
  go_wp2_with fail
  refine hd.mono ?_
  rintro e _ ⟨rfl, s4, rfl⟩
  clear hd s3
  have hrs : s4.w.heap[w.heap.size]? = some (.cells zero32 24 (0, 0)) := s4.blocks (_, _) (by simp)
  have hsz : (byteA D).size = 32 := by rw [byteA_size, hDl]
  have hsr : zero32.size = (byteA D).size := by rw [hsz]; rfl
  have hinf : (Tryz.prog.info? 24).map (·.size) = some (byteA D).size := by rw [hsz]; kernel_rfl
  have hone := byteA_one D
  clear hsz hDl
  go_wp2_with (refine wpList_store_rowTo rfl 24 (.tmp 2) (.tmp 9) rfl rfl w.heap.size (byteA D) rfl rfl 24 zero32 hrs hinf hsr hone ?_)
  refine bodyPost_ret (v := .agg (byteA D)) ?_ rfl ⟨by rw [HD.out], below_setRow s4.below (Nat.le_refl _) _⟩
  exact results_cell_row Tryz.results24 _ _ w.heap.size 24 _ (0, 0) _ rfl (setRow_heap _ _ _ _ _ _ hrs) Tryz.underlying24 rfl hinf
end Go.Proofs.YtdedfjkenbaebaaGreatDoor

/- Format of package sha: the digits of a digest. -/
namespace Go.Proofs.YtdedfjkenbaebaaGreatDoor
open Go.RowKit
set_option linter.unusedVariables false

/-- The digit of a number below 16. -/
def hexD (x : Int) : Int := ([48, 49, 50, 51, 52, 53, 54, 55, 56, 57, 97, 98, 99, 100, 101, 102] : List Int)[x.toNat]?.getD 0
/-- The digits of bytes. -/
def hexL (d : List Int) : List Int := d.flatMap fun b => [hexD (b / 16), hexD (b % 16)]
theorem hexL_succ (d : List Int) {k : Nat} (h : k < d.length) : hexL (d.take (k + 1)) = hexL (d.take k) ++ [hexD (d[k]?.getD 0 / 16), hexD (d[k]?.getD 0 % 16)] := by
  rw [List.take_succ_eq_append_getElem h, List.getElem?_eq_getElem h]
  unfold hexL
  rw [List.flatMap_append]
  simp
theorem hexL_length (d : List Int) : (hexL d).length = 2 * d.length := by
  induction d with
  | nil => rfl
  | cons x d ih => unfold hexL at ih ⊢; rw [List.flatMap_cons, List.length_append, ih, List.length_cons]; simp; omega
theorem lt16 {x : Int} (h0 : 0 ≤ x) (h1 : x < 16) : x = 0 ∨ x = 1 ∨ x = 2 ∨ x = 3 ∨ x = 4 ∨ x = 5 ∨ x = 6 ∨ x = 7 ∨ x = 8 ∨ x = 9 ∨ x = 10 ∨ x = 11 ∨ x = 12 ∨ x = 13 ∨ x = 14 ∨ x = 15 := by omega
theorem index_hex {x : Int} (h0 : 0 ≤ x) (h1 : x < 16) (w : World) : (Instr.index 9 (.string ⟨#[48, 49, 50, 51, 52, 53, 54, 55, 56, 57, 97, 98, 99, 100, 101, 102]⟩) (.int .u8 x)).run Tryz.prog w = .ok (.int .u8 (hexD x)) w := by
  rcases lt16 h0 h1 with rfl | rfl | rfl | rfl | rfl | rfl | rfl | rfl | rfl | rfl | rfl | rfl | rfl | rfl | rfl | rfl <;> kernel_rfl

theorem index_dig (d : List Int) (hd : d.length = 32) {k : Nat} (hk : k < 32) (w : World) : (Instr.index 24 (.agg (byteA d)) (.int .i64 (k : Int))).run Tryz.prog w = .ok (.int .u8 (d[k]?.getD 0)) w := by
  have hu : Tryz.prog.underlying 24 = some (.array 32 5) := Tryz.underlying24
  have hsz : ∀ w, (sizeOf 5).run Tryz.prog w = .ok 1 w := fun w => by kernel_rfl
  have hag : ∀ w, (isAgg 5).run Tryz.prog w = .ok false w := fun w => by kernel_rfl
  have hg := byteA_get d (i := k) (by omega)
  simp [Instr.index, asIntOf, run_underlying hu, Sem.run_bind, hk, hsz, part, hag, hg, Result.andThen]

theorem shaL_bytes (m : List Int) : ∀ i, i < 32 → 0 ≤ (shaL m)[i]?.getD 0 ∧ (shaL m)[i]?.getD 0 < 256 := fun i hi => by
  unfold shaL digL
  rw [List.getElem?_map, List.getElem?_range hi]
  simp only [Option.map_some, Option.getD_some, digB]
  omega
end Go.Proofs.YtdedfjkenbaebaaGreatDoor

/- The digests of no bytes and of abc, reckoned by the kernel. -/
namespace Go.Proofs.YtdedfjkenbaebaaGreatDoor
set_option linter.unusedVariables false
set_option maxRecDepth 1000000 in
theorem sha_empty : shaL [] = [227, 176, 196, 66, 152, 252, 28, 20, 154, 251, 244, 200, 153, 111, 185, 36, 39, 174, 65, 228, 100, 155, 147, 76, 164, 149, 153, 27, 120, 82, 184, 85] := by decide +kernel
set_option maxRecDepth 1000000 in
theorem sha_abc : shaL [97, 98, 99] = [186, 120, 22, 191, 143, 1, 207, 234, 65, 65, 64, 222, 93, 174, 34, 35, 176, 3, 97, 163, 150, 23, 122, 156, 180, 16, 255, 97, 242, 0, 21, 173] := by decide +kernel
end Go.Proofs.YtdedfjkenbaebaaGreatDoor

/- The example of the chapter holds. -/
namespace Go.Proofs.YtdedfjkenbaebaaGreatDoor
open Go.RowKit
set_option linter.unusedVariables false

theorem conv_abc (w : World) : (convert 22 22 (.slice (some ⟨w.heap.size, 0, none⟩) 3 3)).run Tryz.prog (w.alloc (.cells #[.int .u8 97, .int .u8 98, .int .u8 99] 5)) = .ok (.slice (some ⟨w.heap.size, 0, none⟩) 3 3) (w.alloc (.cells #[.int .u8 97, .int .u8 98, .int .u8 99] 5 (3, 4))) :=
  Lib.run_convert_bytes_const w 22 5 #[.int .u8 97, .int .u8 98, .int .u8 99] 3 3 Tryz.underlying22 Tryz.underlying5

end Go.Proofs.YtdedfjkenbaebaaGreatDoor

/- Two equal digests compare as equal; what the methods of a nil hash return; bytes appended to a new slice. -/
namespace Go.Proofs.YtdedfjkenbaebaaGreatDoor
open Go.RowKit
set_option linter.unusedVariables false

theorem equal_same (D : List Int) (hD : D.length = 32) (w : World) : (Op.equalIn 10000 24 (.agg (byteA D)) (.agg (byteA D))).run Tryz.prog w = .ok true w := by
  have ht : Tryz.prog.underlying 24 = some (.array 32 5) := Tryz.underlying24
  have he : Tryz.prog.underlying 5 = some (.int .u8) := Tryz.underlying5
  have hsz : ∀ w, (sizeOf 5).run Tryz.prog w = .ok 1 w := fun w => by kernel_rfl
  have hag : ∀ w, (isAgg 5).run Tryz.prog w = .ok false w := fun w => by kernel_rfl
  rw [show (10000 : Nat) = 9998 + 2 from rfl, Op.equalIn]
  simp only [Sem.run_bind, run_underlying ht, Result.andThen_ok, hsz, Std.Legacy.Range.forIn_eq_forIn_range', Std.Legacy.Range.size, Nat.sub_zero, Nat.add_sub_cancel, Nat.div_one]
  have hl : ∀ i ∈ List.range' 0 32 1, i < 32 := fun i hi => by simpa using (List.mem_range'_1.1 hi).2
  generalize List.range' 0 32 1 = l at hl ⊢
  induction l with
  | nil => simp
  | cons i l ih =>
    have hi : i < 32 := hl i (by simp)
    have px : (part 5 (byteA D) (i * 1)).run Tryz.prog w = .ok (.int .u8 (D[i]?.getD 0)) w := by
      rw [Nat.mul_one]
      unfold part
      simp only [Sem.run_bind, hag, Result.andThen_ok, byteA_get D (i := i) (by omega)]
      simp
    have pe : (Op.equalIn (9998 + 1) 5 (.int .u8 (D[i]?.getD 0)) (.int .u8 (D[i]?.getD 0))).run Tryz.prog w = .ok true w := by
      rw [run_equalIn_int w 9998 5 .u8 .u8 _ _ he]
      simp
    simp only [List.forIn_cons, Sem.run_bind, px, pe, Result.andThen_ok, Bool.not_true, Bool.false_eq_true, if_false, Sem.run_pure]
    exact ih fun j hj => hl j (by simp [hj])

theorem guard_arr : Tryz.prog.eqGuardType Tryz.prog.depth 24 = false := by kernel_rfl

theorem write_nil (pa : Option Addr) (n cap : Nat) (w : World) : Calls Tryz.prog 60 #[.pointer none, .slice pa n cap] w fun e w' => e = .returned (.int .i64 0) ∧ w' = w := by
  go_enter Tryz.func60, Tryz.ntmps60
  go_wp2
  go_ret
  exact ⟨rfl, rfl⟩
/-- A new digest, its cells under one name. -/
def zeroD : List Int := List.replicate 32 0
theorem zeroD_eq : byteA zeroD = zero32 := rfl
theorem zero_arr (w : World) : (zeroValue 24).run Tryz.prog w = .ok (.agg (byteA zeroD)) w := by kernel_rfl
set_option maxRecDepth 100000 in
theorem sum_nil (w : World) : Calls Tryz.prog 61 #[.pointer none] w (Gives (.agg (byteA zeroD)) w) := by
  have hsz : (byteA zeroD).size = 32 := rfl
  have hinf : (Tryz.prog.info? 24).map (·.size) = some (byteA zeroD).size := by rw [hsz]; kernel_rfl
  have hn : (w.alloc (.cells zero32 24)).heap[w.heap.size]? = some (.cells (byteA zeroD) 24 (0, 0)) := heap_new w (.cells (byteA zeroD) 24 (0, 0)) rfl
  have hone := byteA_one zeroD
  clear hsz
  go_enter Tryz.func61, Tryz.ntmps61
  go_wp2_with (first
    | (refine wpList_buildTo rfl 24 _ rfl (some 6) rfl (byteA zeroD) (by kernel_rfl) ?_)
    | (refine wpList_store_rowTo rfl 24 (.tmp 2) (.tmp 6) rfl rfl w.heap.size (byteA zeroD) rfl rfl 24 (byteA zeroD) hn hinf rfl hone ?_))
  refine bodyPost_ret (v := .agg (byteA zeroD)) ?_ rfl ⟨rfl, below_setRow ((Below.refl _ w).alloc (Nat.le_refl _) _) (Nat.le_refl _) _⟩
  exact results_cell_row Tryz.results61 _ _ w.heap.size 24 _ (0, 0) _ rfl (setRow_heap _ _ _ _ _ _ hn) Tryz.underlying24 rfl hinf

end Go.Proofs.YtdedfjkenbaebaaGreatDoor

/- The table of the constants, out of what the rows list; a slice of bytes that came in, opened. -/
namespace Go.Proofs.YtdedfjkenbaebaaGreatDoor
open Go.ChangeShapes Go.WideShapes Go.RowKit
set_option linter.unusedVariables false

theorem gRoots : Tryz.prog.globalNamed "graft/sha.roots" = some 0 := by kernel_rfl
theorem tRoots : (Tryz.prog.globals[0]?).map (·.type) = some 191 := by kernel_rfl
/-- What the rows list. -/
abbrev laidRoots : List (String × DataW Unit) := [("graft/sha.roots", Rows.laid_graft_sha_roots)]
/-- The door's own heap holds it. -/
theorem door_met (os : Os) (args : Array Value) : laidMetH Tryz.prog laidRoots ((World.doorLaid Tryz.prog 400 os).forCall (fun _ _ => 0) ⟨#[], args, []⟩).memory :=
  laidMetH_of_parts3 (fuel := 8) (laidMet_of_run' 8 (by kernel_rfl) (by kernel_rfl)) (by kernel_rfl) (by kernel_rfl)
theorem roots_laid {W : World} (h : laidMetH Tryz.prog laidRoots W) : Roots W := fun i hi => by
  rw [MakeChecks.laidMetH_plain _ _ _ (by kernel_rfl)] at h
  have hT : Lib.TabIs Tryz.prog W "graft/sha.roots" .u32 rootsL := Lib.tabIs_of_head gRoots tRoots Tryz.underlying191 Tryz.underlying118 (by kernel_rfl) (by kernel_rfl) (rest := []) h
  have := hT.cell gRoots i (by rw [rootsL_length]; exact hi)
  simpa using this

end Go.Proofs.YtdedfjkenbaebaaGreatDoor

/- Plain mathematics for package extent: the number of pieces, and the pieces. No Go text. -/
namespace Go.Proofs.YtdedfjkenbaebaaGreatDoor.Plain01

/-- How many pieces of a size an extent of a length has (without the greatest number). -/
def cnt (len size : Int) : Int := if len < 1 ∨ size < 1 then 0 else (len - 1) / size + 1

theorem cnt_none {len size : Int} (h : len < 1 ∨ size < 1) : cnt len size = 0 := by unfold cnt; rw [if_pos h]
theorem cnt_some {len size : Int} (h : 1 ≤ len) (h' : 1 ≤ size) : cnt len size = (len - 1) / size + 1 := by unfold cnt; rw [if_neg (by omega)]

theorem div_bd (len size : Int) (h : 1 ≤ len) (h' : 1 ≤ size) : 0 ≤ (len - 1) / size ∧ (len - 1) / size ≤ len - 1 :=
  ⟨Int.ediv_nonneg (by omega) (by omega), Int.ediv_le_self _ (by omega)⟩

theorem cnt_bd (len size : Int) : 0 ≤ cnt len size ∧ (0 ≤ len → cnt len size ≤ len) := by
  by_cases h : len < 1 ∨ size < 1
  · rw [cnt_none h]; omega
  · have := div_bd len size (by omega) (by omega)
    rw [cnt_some (by omega) (by omega)]; omega

/-- The piece of a number. -/
def piece (off len size : Int) (i : Nat) : Int × Int := (off + (i : Int) * size, min size (len - (i : Int) * size))

/-- A number below the count times the size lies below the length. -/
theorem mul_lt {len size : Int} {i : Nat} (h : (i : Int) < cnt len size) : 1 ≤ len ∧ 1 ≤ size ∧ 0 ≤ (i : Int) * size ∧ (i : Int) * size ≤ len - 1 := by
  by_cases hc : len < 1 ∨ size < 1
  · rw [cnt_none hc] at h; omega
  · rw [cnt_some (by omega) (by omega)] at h
    refine ⟨by omega, by omega, Int.mul_nonneg (by omega) (by omega), ?_⟩
    have h1 : (i : Int) * size ≤ (len - 1) / size * size := Int.mul_le_mul_of_nonneg_right (by omega) (by omega)
    have h2 := Int.ediv_mul_le (len - 1) (b := size) (by omega)
    omega

theorem piece_full {off len size : Int} {i : Nat} (h : size ≤ len - (i : Int) * size) : piece off len size i = (off + (i : Int) * size, size) := by unfold piece; rw [Int.min_eq_left h]
theorem piece_rest {off len size : Int} {i : Nat} (h : len - (i : Int) * size ≤ size) : piece off len size i = (off + (i : Int) * size, len - (i : Int) * size) := by unfold piece; rw [Int.min_eq_right h]

/-- How many pieces Split returns. -/
def nsp (len size : Int) : Nat := if 1048576 < cnt len size then 0 else (cnt len size).toNat
theorem nsp_big {len size : Int} (h : 1048576 < cnt len size) : nsp len size = 0 := by unfold nsp; rw [if_pos h]
theorem nsp_few {len size : Int} (h : cnt len size ≤ 1048576) : nsp len size = (cnt len size).toNat := by unfold nsp; rw [if_neg (by omega)]

end Go.Proofs.YtdedfjkenbaebaaGreatDoor.Plain01

/- Extents: values, rows, End and Valid. -/
namespace Go.Proofs.YtdedfjkenbaebaaGreatDoor
open Go.RowKit Go.Shelf Go.Proofs.YtdedfjkenbaebaaGreatDoor.Plain01

abbrev extV (x : Int × Int) : Value := .agg #[.int .i64 x.1, .int .i64 x.2]

/-- A row of n extents in block b from cell o on. -/
def ExtRow (w : World) (b o n : Nat) (f : Nat → Int × Int) : Prop := ∀ i, i < n → w.cell? ⟨b, o + i * 2, none⟩ = some (.int .i64 (f i).1) ∧ w.cell? ⟨b, o + i * 2 + 1, none⟩ = some (.int .i64 (f i).2)

theorem ExtRow.below {w w' : World} {B b o n : Nat} {f : Nat → Int × Int} (h : ExtRow w b o n f) (hb : Below B w w') (hlt : b < B) : ExtRow w' b o n f := fun i hi =>
  ⟨(hb.cell (p := ⟨b, _, none⟩) hlt).trans (h i hi).1, (hb.cell (p := ⟨b, _, none⟩) hlt).trans (h i hi).2⟩

theorem end_any (off len : Int) (hoff : 0 ≤ off) (hlen : 0 ≤ len) (hsum : off + len ≤ 4611686018427387903) (w : World) :
    Calls Tryz.prog 93 #[extV (off, len)] w fun e w' => e = .returned (.int .i64 (off + len)) ∧ w' = w.alloc (.cells #[.int .i64 off, .int .i64 len] 95) := by
  go_enter Tryz.func93, Tryz.ntmps93
  go_wp2
  go_ret
  exact ⟨rfl, rfl⟩

/-- The extent is valid. -/
def okE (x : Int × Int) : Bool := decide (0 ≤ x.1 ∧ 0 ≤ x.2 ∧ x.1 + x.2 ≤ 4611686018427387903)
theorem okE_iff {x : Int × Int} : okE x = true ↔ 0 ≤ x.1 ∧ 0 ≤ x.2 ∧ x.1 + x.2 ≤ 4611686018427387903 := by simp [okE]

/-- An int of 64 bits. -/
def I64 (a : Int) : Prop := -9223372036854775808 ≤ a ∧ a ≤ 9223372036854775807

theorem valid_any (off len : Int) (h0 : I64 off) (h1 : I64 len) (w : World) :
    Calls Tryz.prog 90 #[extV (off, len)] w fun e w' => e = .returned (.bool (okE (off, len))) ∧ w' = w.alloc (.cells #[.int .i64 off, .int .i64 len] 95) := by
  unfold I64 at h0 h1
  by_cases c1 : 0 ≤ off
  · by_cases c2 : 0 ≤ len
    · by_cases c3 : off ≤ 4611686018427387903 - len
      · have e : okE (off, len) = true := by rw [okE_iff]; simp; omega
        go_enter Tryz.func90, Tryz.ntmps90
        go_wp2
        go_ret
        exact ⟨by first | rfl | (rw [e]; rfl), rfl⟩
      · have e : okE (off, len) = false := by rw [Bool.eq_false_iff, Ne, okE_iff]; simp; omega
        go_enter Tryz.func90, Tryz.ntmps90
        go_wp2
        go_ret
        exact ⟨by first | rfl | (rw [e]; rfl), rfl⟩
    · have e : okE (off, len) = false := by rw [Bool.eq_false_iff, Ne, okE_iff]; simp; omega
      go_enter Tryz.func90, Tryz.ntmps90
      go_wp2
      go_ret
      exact ⟨by first | rfl | (rw [e]; rfl), rfl⟩
  · have e : okE (off, len) = false := by rw [Bool.eq_false_iff, Ne, okE_iff]; simp; omega
    go_enter Tryz.func90, Tryz.ntmps90
    go_wp2
    go_ret
    exact ⟨by first | rfl | (rw [e]; rfl), rfl⟩

end Go.Proofs.YtdedfjkenbaebaaGreatDoor

/- The functions count, pieces and Split of package extent: what they return at every valid extent and every size. -/
namespace Go.Proofs.YtdedfjkenbaebaaGreatDoor
open Go.RowKit Go.Shelf Go.Proofs.YtdedfjkenbaebaaGreatDoor.Plain01
attribute [local go_sem] Oper.semAt_some

theorem ret_int {k : IntKind} {a b : Int} (h : a = b) : Ending.returned (.int k a) = .returned (.int k b) := by rw [h]

/-- What has come when k rounds are over. -/
def upto {α : Type} (f : Nat → α) (k : Nat) : List α := (List.range k).map f
theorem upto_succ {α : Type} (f : Nat → α) (k : Nat) : upto f (k + 1) = upto f k ++ [f k] := by simp [upto, List.range_succ]
theorem upto_length {α : Type} (f : Nat → α) (k : Nat) : (upto f k).length = k := by simp [upto]

/-- What a round that goes on keeps: the two captured boxes. -/
def KpBoxes (Be Bs : Nat) (A B : World) : Prop := B.heap[Be]? = A.heap[Be]? ∧ B.heap[Bs]? = A.heap[Bs]?

end Go.Proofs.YtdedfjkenbaebaaGreatDoor

/- Split of package extent: the pieces, in a slice of its own, at every valid extent and every size. -/
namespace Go.Proofs.YtdedfjkenbaebaaGreatDoor
open Go.RowKit Go.Shelf Go.Proofs.YtdedfjkenbaebaaGreatDoor.Plain01
attribute [local go_sem] Oper.semAt_some

theorem KpBoxes.trans {Be Bs : Nat} {A B C : World} (h : KpBoxes Be Bs A B) (k : KpBoxes Be Bs B C) : KpBoxes Be Bs A C := ⟨k.1.trans h.1, k.2.trans h.2⟩

/-- The cells of a list of extents. -/
def extCells (l : List (Int × Int)) : List Value := l.flatMap fun x => [.int .i64 x.1, .int .i64 x.2]
theorem extCells_snoc (l : List (Int × Int)) (x : Int × Int) : extCells (l ++ [x]) = extCells l ++ [.int .i64 x.1, .int .i64 x.2] := by simp [extCells]

theorem infoExtent : (Tryz.prog.info? 95).map (fun i => (i.zero, i.size, i.bytes)) = some (some (.agg #[.int .i64 0, .int .i64 0]), 2, 16) := by kernel_rfl

/-- What Split's caller is told. -/
def SplitPost (off len size : Int) (w : World) (e : Ending) (w' : World) : Prop :=
  ∃ v, e = .returned v ∧ w'.ownsRow w.heap.size 95 2 v (nsp len size) (extCells (upto (piece off len size) (nsp len size))) ∧ Below w.heap.size w w'

/-- The first of two new blocks, behind a growth that writes no row. -/
theorem first_kept {w w1 : World} {o0 o1 : Obj} (h : ((w.alloc o0).alloc o1).grownBy w1 none) : w1.heap[w.heap.size]? = some o0 :=
  (h.block _ (by simp; omega) (by simp)).trans ((Below.heap_alloc _ _ _ (by simp)).trans (World.alloc_heap_new w _))

/-- Three new blocks. -/
theorem three_new (w : World) (o0 : Obj) (o1 o2 : Obj) : (((w.alloc o0).alloc o1).alloc o2).heap.size = w.heap.size + 3 ∧ (((w.alloc o0).alloc o1).alloc o2).heap[w.heap.size + 1]? = some o1 ∧ (((w.alloc o0).alloc o1).alloc o2).heap[w.heap.size + 1 + 1]? = some o2 ∧ Below w.heap.size w (((w.alloc o0).alloc o1).alloc o2) := by
  refine ⟨by simp, ?_, ?_, (((Below.refl _ w).alloc (Nat.le_refl _) _).alloc (by simp) _).alloc (by simp; omega) _⟩
  · refine (Below.heap_alloc _ _ _ (by simp)).trans ?_
    have := World.alloc_heap_new (w.alloc o0) o1
    rwa [World.size_alloc] at this
  · have := World.alloc_heap_new ((w.alloc o0).alloc o1) o2
    rwa [World.size_alloc, World.size_alloc] at this

theorem two_new_cells (W : World) (a b : Value) (t : TypeId) : ∀ (j : Nat) (u : Value), [a, b][j]? = some u → (W.alloc (.cells #[a, b] t)).cell? ((⟨W.heap.size, 0, none⟩ : Addr).add j) = some u := by
  intro j u h
  have e : (⟨W.heap.size, 0, none⟩ : Addr).add j = ⟨W.heap.size, j, none⟩ := by simp [Addr.add]; omega
  rw [e, World.cell?_alloc_mark]
  simpa using h

theorem size_ownFrom {β : Type} (B m : Nat) : OwnFrom B (fun (_ : β) W => m ≤ W.heap.size) := fun _ _ _ _ hs hg _ => Nat.le_trans hs hg.size

theorem KpBoxes.refl (Be Bs : Nat) (A : World) : KpBoxes Be Bs A A := ⟨rfl, rfl⟩
theorem kpBoxes_alloc {Be Bs : Nat} {A : World} (h1 : Be < A.heap.size) (h2 : Bs < A.heap.size) (o : Obj) : KpBoxes Be Bs A (A.alloc o) := ⟨Below.heap_alloc _ _ _ h1, Below.heap_alloc _ _ _ h2⟩
/-- A growth that writes another row, then a store into another block. -/
theorem kpBoxes_grown_set {Be Bs g B : Nat} {A A' : World} (h1 : Be < A.heap.size) (h2 : Bs < A.heap.size) (hg : A.grownBy A' (some g)) (e1 : Be ≠ g) (e2 : Bs ≠ g) (e3 : Be ≠ B) (e4 : Bs ≠ B) (v : Value) : KpBoxes Be Bs A (A'.setCell ⟨B, 0, none⟩ v) :=
  ⟨(Below.heap_setCell _ _ _ _ e3).trans (hg.block _ h1 (by simpa using e1)), (Below.heap_setCell _ _ _ _ e4).trans (hg.block _ h2 (by simpa using e2))⟩

theorem cells_own {β : Type} (B : Nat) (cs : Array Value) (t : TypeId) : Own (fun (_ : β) W => W.heap[B]? = some (.cells cs t (0, 0))) := fun s X Y row hs hg hrow =>
  (hg.block B (Array.getElem?_eq_some_iff.1 hs).1 (fun e => by obtain ⟨o, ho, hc⟩ := hrow B e.symm; rw [hs] at ho; cases ho; cases hc)).trans hs

theorem kpBoxes_put {Be Bs : Nat} {w : World} (h1 : Be < w.heap.size) (h2 : Bs < w.heap.size) (W : World) (l : Nat) (o o' : Obj) (hl : w.heap.size ≤ l) (_ : W.heap[l]? = some o) (_ : o.isCells = false) (_ : o.isWalk = false) : KpBoxes Be Bs W (W.putObj l o') :=
  ⟨World.putObj_heap_other (by omega), World.putObj_heap_other (by omega)⟩

end Go.Proofs.YtdedfjkenbaebaaGreatDoor
