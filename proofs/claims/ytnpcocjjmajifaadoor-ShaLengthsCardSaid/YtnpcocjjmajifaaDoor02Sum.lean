/- Sum and Of of package sha. -/
import Derived.Test.YtnpcocjjmajifaaDoor02Digest
namespace Go.Proofs.YtnpcocjjmajifaaDoor
open Go.RowKit
set_option linter.unusedVariables false

/-- The digest of bytes. -/
def shaL (m : List Int) : List Int := digL (stF (byteAt (m ++ padL m.length)) ((m ++ padL m.length).length / 64)) 32
theorem shaL_length (m : List Int) : (shaL m).length = 32 := digL_length _ _
theorem padL_length (n : Nat) : (padL n).length = zerosOf n + 9 := padK_length _ _ (by omega)

/-- A new digest. -/
abbrev zero32 : Array Value := #[Value.int .u8 0, Value.int .u8 0, Value.int .u8 0, Value.int .u8 0, Value.int .u8 0, Value.int .u8 0, Value.int .u8 0, Value.int .u8 0, Value.int .u8 0, Value.int .u8 0, Value.int .u8 0, Value.int .u8 0, Value.int .u8 0, Value.int .u8 0, Value.int .u8 0, Value.int .u8 0, Value.int .u8 0, Value.int .u8 0, Value.int .u8 0, Value.int .u8 0, Value.int .u8 0, Value.int .u8 0, Value.int .u8 0, Value.int .u8 0, Value.int .u8 0, Value.int .u8 0, Value.int .u8 0, Value.int .u8 0, Value.int .u8 0, Value.int .u8 0, Value.int .u8 0, Value.int .u8 0]
theorem two_blocks (w : World) (o1 o2 : Obj) : ∃ s : HeldW w [(w.heap.size + 1, o2), (w.heap.size, o1)], s.w = (w.alloc o1).alloc o2 :=
  ⟨⟨_, ((Below.refl _ w).alloc (Nat.le_refl _) _).alloc (by simp) _, List.forall_mem_cons.2 ⟨heap_new _ _ (by simp), all1 (heap_old (heap_new _ _ rfl) _)⟩⟩, rfl⟩
theorem Roots.W {w : World} {bs : List (Nat × Obj)} (hr : Roots w) (s : HeldW w bs) : Roots s.w := hr.below s.below

theorem Src.below {w w' : World} {h : Nat} {a : Option Addr} {l : List Int} (hs : Src w h a l) (hb : Below w.heap.size w w') : Src w' h a l := fun hp => by
  obtain ⟨b, o, rfl, hbh, hc⟩ := hs hp
  exact ⟨b, o, rfl, hbh, fun i hi => by rw [← hc i hi]; exact hb.cell (p := ⟨b, o + i, none⟩) (World.block_lt_of_cell? w _ (hc i hi))⟩
theorem PartsAt.below {w w' : World} {h : Nat} {pa : Option Addr} {ls : List (List Int)} (hs : PartsAt w h pa ls) (hb : Below w.heap.size w w') : PartsAt w' h pa ls := fun hp => by
  obtain ⟨b, o, rfl, hbh, hc⟩ := hs hp
  refine ⟨b, o, rfl, hbh, fun i hi => ?_⟩
  obtain ⟨a, cap, h1, h2, h3, h4⟩ := hc i hi
  exact ⟨a, cap, by rw [← h1]; exact hb.cell (p := ⟨b, o + i, none⟩) (World.block_lt_of_cell? w _ h1), h2, h3, h4.below hb⟩
theorem pad_held {P : Program} {f : FuncId} {args : Array Value} {n k : Nat} {t : TypeId} {l : List Int} {w0 : World} {bs : List (Nat × Obj)} {s : HeldW w0 bs}
    (hc : Calls P f args s.w fun e w' => e = .returned (.slice (some ⟨s.w.heap.size, 0, none⟩) n k) ∧ Below s.w.heap.size s.w w' ∧ w'.heap[s.w.heap.size]? = some (.cells (byteA l) t (0, 0))) :
    Calls P f args s.w fun e w'' => ∃ g, e = .returned (.slice (some ⟨g, 0, none⟩) n k) ∧ w0.heap.size ≤ g ∧ Hid (∀ p ∈ bs, p.1 ≠ g) ∧ ∃ s' : HeldW w0 ((g, .cells (byteA l) t (0, 0)) :: bs), w'' = s'.w :=
  hc.mono fun _ w'' ⟨he, hb, ho⟩ => ⟨_, he, s.below.size, fun p hp e => by have := (Array.getElem?_eq_some_iff.1 (s.blocks p hp)).1; omega,
    ⟨w'', s.below.trans (hb.mono s.below.size), List.forall_mem_cons.2 ⟨ho, fun p hp => (hb.block _ (Array.getElem?_eq_some_iff.1 (s.blocks p hp)).1).trans (s.blocks p hp)⟩⟩, rfl⟩

set_option maxRecDepth 100000 in
set_option maxHeartbeats 4000000 in
theorem sum_any (h : Nat) (m : List Int) (o : Obj) (w : World) (hinv : Inv m o) (ho : w.heap[h]? = some o) (hR : Roots w) (hm : m.length < 1152921504606846976) :
    Calls Tryd.prog 14 #[.pointer (some ⟨h, 0, none⟩)] w (Gives (.agg (byteA (shaL m))) w) := by
  have hinv0 := hinv
  obtain ⟨r, hr, hrm, rfl⟩ := hinv
  have HI := Lib.hid hinv0
  have hsz := hash_size (stF (byteAt m) (m.length / 64)) r m.length hr
  have hone := hash_one (stF (byteAt m) (m.length / 64)) r m.length
  have hinf : (Tryd.prog.info? 54).map (·.size) = some (hashA (stF (byteAt m) (m.length / 64)) r m.length).size := by rw [hsz]; kernel_rfl
  have hzs : zeroA.size = (hashA (stF (byteAt m) (m.length / 64)) r m.length).size := by rw [hsz]; rfl
  have c72 : w.cell? ⟨h, 72, none⟩ = some (.int .i64 m.length) := inv_len hinv0 ho
  have hhw := (Array.getElem?_eq_some_iff.1 ho).1
  clear hrm hr hsz hinv0
  dsimp only [hashO] at ho HI
  generalize hashA (stF (byteAt m) (m.length / 64)) r m.length = A at *
  have hz := zero_hash
  have HR := Lib.hid hR
  have hgo := heap_old ho (.cells zero32 24 (0, 0))
  obtain ⟨s0, hs0⟩ := two_blocks w (.cells zero32 24 (0, 0)) (.cells zeroA 54 (0, 0))
  have hn : ((w.alloc (.cells zero32 24 (0, 0))).alloc (.cells zeroA 54 (0, 0))).heap[w.heap.size + 1]? = some (.cells zeroA 54 (0, 0)) := heap_new _ _ (by simp)
  obtain ⟨s1, hs1⟩ : ∃ s1 : HeldW w [(w.heap.size + 1, .cells A 54 (0, 0)), (w.heap.size, .cells zero32 24 (0, 0))], ((w.alloc (.cells zero32 24 (0, 0))).alloc (.cells zeroA 54 (0, 0))).setRow (w.heap.size + 1) A = s1.w :=
    ⟨s0.row (by simp) (by simp), by rw [← hs0]; rfl⟩
  have hcw : (((w.alloc (.cells zero32 24 (0, 0))).alloc (.cells zeroA 54 (0, 0))).setRow (w.heap.size + 1) A).cell? ⟨h, 72, none⟩ = some (.int .i64 m.length) := by
    rw [hs1, s1.below.cell (p := ⟨h, 72, none⟩) hhw, c72]
  have HS := Lib.hid hs1
  clear hR ho hs0 c72 hs1 s0
  go_enter Tryd.func14, Tryd.ntmps14
  go_wp2_with (first
    | (refine wpList_load_row rfl 54 (.tmp 8) rfl h rfl 54 _ (0, 0) _ hgo Tryd.underlying54 rfl hinf ?_)
    | (refine wpList_store_rowTo rfl 54 (.tmp 3) (.tmp 9) rfl rfl (w.heap.size + 1) A rfl rfl 54 zeroA hn hinf hzs hone ?_))
  rw [HS.out]
  clear hcw hgo hn HS hinf hone hzs hz
  refine (pad_held (padding_any m.length s1.w (by omega))).mono ?_
  rintro e _ ⟨g, rfl, hg, hgb, s2, rfl⟩
  clear s1
  have hpb := s2.blocks (_, _) List.mem_cons_self
  have ht := take_any (w.heap.size + 1) m (padL m.length) (.cells A 54 (0, 0)) (some ⟨g, 0, none⟩) (zerosOf m.length + 9) s2.w HI.out (s2.blocks (_, _) (by simp)) (by omega) (HR.out.W s2)
    (fun _ => ⟨g, 0, rfl, fun e => hgb.out _ List.mem_cons_self e.symm, fun i hi => by rw [Nat.zero_add, cell_of hpb, byteA_get _ hi]⟩) (by rw [padL_length]; omega) (by unfold zerosOf; omega) (by rw [padL_length]; unfold zerosOf; omega)
  rw [padL_length] at ht
  have ht2 := HeldW.takes (s := s2.sub (bs' := [(w.heap.size + 1, .cells A 54 (0, 0)), (w.heap.size, .cells zero32 24 (0, 0))]) (by simp)) ht (by simp) (by simp)
  clear ht hpb
  go_wp2_with fail
  refine ht2.mono ?_
  rintro e _ ⟨rfl, o3, hi3, s3, rfl⟩
  clear ht2 s2
  obtain ⟨r3, hr3, _, rfl⟩ := hi3.out
  have hd := HeldW.call (s := s3) (digest_any (w.heap.size + 1) _ r3 _ s3.w (s3.blocks (_, _) List.mem_cons_self))
  change Calls _ _ _ _ (fun e w'' => e = .returned (.agg (byteA (shaL m))) ∧ _) at hd
  clear hi3 hr3
  generalize hD : shaL m = D at hd ⊢
  have hDl : D.length = 32 := by rw [← hD]; exact shaL_length m
  go_wp2_with fail
  refine hd.mono ?_
  rintro e _ ⟨rfl, s4, rfl⟩
  clear hd s3
  have hrs : s4.w.heap[w.heap.size]? = some (.cells zero32 24 (0, 0)) := s4.blocks (_, _) (by simp)
  have hsz : (byteA D).size = 32 := by rw [byteA_size, hDl]
  have hsr : zero32.size = (byteA D).size := by rw [hsz]; rfl
  have hinf : (Tryd.prog.info? 24).map (·.size) = some (byteA D).size := by rw [hsz]; kernel_rfl
  have hone := byteA_one D
  clear hsz hDl
  go_wp2_with (refine wpList_store_rowTo rfl 24 (.tmp 2) (.tmp 17) rfl rfl w.heap.size (byteA D) rfl rfl 24 zero32 hrs hinf hsr hone ?_)
  refine bodyPost_ret (v := .agg (byteA D)) ?_ rfl ⟨by rw [hD], below_setRow s4.below (Nat.le_refl _) _⟩
  exact results_cell_row Tryd.results14 _ _ w.heap.size 24 _ (0, 0) _ rfl (setRow_heap _ _ _ _ _ _ hrs) Tryd.underlying24 rfl hinf

set_option maxRecDepth 100000 in
set_option maxHeartbeats 4000000 in
/-- Of returns the digest of the bytes of all parts. -/
theorem of_any (ls : List (List Int)) (pa : Option Addr) (pcap : Nat) (w : World) (hR : Roots w) (hparts : ∀ g, w.heap.size ≤ g → PartsAt w g pa ls) (hn : ls.length < 1152921504606846976) (hm : ls.flatten.length < 1152921504606846976) :
    Calls Tryd.prog 10 #[.slice pa ls.length pcap] w (Gives (.agg (byteA (shaL ls.flatten))) w) := by
  have HP := Lib.hid hparts
  have HR := Lib.hid hR
  obtain ⟨s0, hs0⟩ : ∃ s0 : HeldW w [(w.heap.size, .cells zero32 24 (0, 0))], w.alloc (.cells zero32 24 (0, 0)) = s0.w := ⟨(HeldW.start w).push _, rfl⟩
  have HS := Lib.hid hs0
  clear hparts hR hs0
  go_enter Tryd.func10, Tryd.ntmps10
  go_wp2_with fail
  rw [HS.out]
  refine (HeldW.makes (s := s0) (new_any _)).mono ?_
  rintro e _ ⟨g, o, rfl, hg, hgb, hi, s1, rfl⟩
  clear HS s0
  have hw := HeldW.takes (s := s1) (write_any g [] ls o pa pcap s1.w hi.out (s1.blocks (_, _) List.mem_cons_self) (by have := HR.out.pos; omega) (HR.out.W s1) ((HP.out g hg).below s1.below) (by omega) (by rw [List.length_nil]; omega)) hg hgb.out
  rw [List.nil_append] at hw
  obtain ⟨T, hT⟩ : ∃ T, ls.flatten.length = T := ⟨_, rfl⟩
  rw [hT] at hw
  clear hgb hi
  go_wp2_with fail
  refine hw.mono ?_
  rintro e _ ⟨rfl, o3, hi3, s3, rfl⟩
  have hd := HeldW.call (s := s3) (sum_any g ls.flatten o3 s3.w hi3.out (s3.blocks (_, _) List.mem_cons_self) (HR.out.W s3) hm)
  have HM := Lib.hid hm
  clear hw hi3 hm hT
  generalize hD : shaL ls.flatten = D at hd
  have hDl : D.length = 32 := by rw [← hD]; exact shaL_length _
  have HD := Lib.hid hD
  clear hD HM
  go_wp2_with fail
  refine hd.mono ?_
  rintro e _ ⟨rfl, s4, rfl⟩
  clear hd s3
  have hrs : s4.w.heap[w.heap.size]? = some (.cells zero32 24 (0, 0)) := s4.blocks (_, _) (by simp)
  have hsz : (byteA D).size = 32 := by rw [byteA_size, hDl]
  have hsr : zero32.size = (byteA D).size := by rw [hsz]; rfl
  have hinf : (Tryd.prog.info? 24).map (·.size) = some (byteA D).size := by rw [hsz]; kernel_rfl
  have hone := byteA_one D
  clear hsz hDl
  go_wp2_with (refine wpList_store_rowTo rfl 24 (.tmp 2) (.tmp 9) rfl rfl w.heap.size (byteA D) rfl rfl 24 zero32 hrs hinf hsr hone ?_)
  refine bodyPost_ret (v := .agg (byteA D)) ?_ rfl ⟨by rw [HD.out], below_setRow s4.below (Nat.le_refl _) _⟩
  exact results_cell_row Tryd.results10 _ _ w.heap.size 24 _ (0, 0) _ rfl (setRow_heap _ _ _ _ _ _ hrs) Tryd.underlying24 rfl hinf
end Go.Proofs.YtnpcocjjmajifaaDoor
