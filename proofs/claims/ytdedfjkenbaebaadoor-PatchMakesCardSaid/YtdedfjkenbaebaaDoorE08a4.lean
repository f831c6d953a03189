import Derived.Test.YtdedfjkenbaebaaDoorE08a3
import Derived.Laws.MakeOwn
/- take: the bytes of one part. -/
namespace Go.Proofs.YtdedfjkenbaebaaDoor
open Go.RowKit
set_option linter.unusedVariables false

/-- It returns v; of what was there only block h has changed: it holds a hash that has taken m. -/
def Takes (h : Nat) (m : List Int) (v : Value) (w : World) (e : Ending) (w' : World) : Prop := e = .returned v ∧ But h w.heap.size w w' ∧ ∃ o, w'.heap[h]? = some o ∧ Inv m o

/-- The cells of a hash in a class of worlds. -/
theorem cellN {w0 : World} {h : Nat} {bs : List (Nat × Obj)} (v : V8) (r : List Int) (n : Int) (hl : r.length = 64) (hm : (h, hashO v r n) ∈ bs) (s : HeldX w0 h bs) : s.w.cell? ⟨h, 72, none⟩ = some (.int .i64 n) := by
  rw [cell_of (s.blocks _ hm), hash_len v r n hl]

/-- What the loop and the last copy leave. -/
theorem inv_end (M r : List Int) (q : Nat) (hr : r.length = 64) (hq : 64 * q ≤ M.length) (hlt : M.length - 64 * q < 64) : Inv M (hashO (stF (byteAt M) q) (splice r 0 (M.drop (64 * q))) M.length) := by
  have hd : (M.drop (64 * q)).length = M.length - 64 * q := by simp
  have hq' : M.length / 64 = q := by omega
  refine ⟨splice r 0 (M.drop (64 * q)), by rw [splice_length _ _ _ (by omega), hr], fun i hi => ?_, by rw [hq']⟩
  have := splice_in r 0 (M.drop (64 * q)) (i := i) (by omega) (by omega)
  rw [Nat.zero_add] at this
  rw [this, List.getElem?_drop, hq', Nat.mul_comm]

theorem cell_src {w : World} {h b o : Nat} {l : List Int} (hb : b ≠ h) (hc : ∀ i, i < l.length → w.cell? ⟨b, o + i, none⟩ = some (.int .u8 (l[i]?.getD 0))) {bs : List (Nat × Obj)} (s : HeldX w h bs) {j : Nat} {v : Value}
    (hv : (l.map (Value.int .u8))[j]? = some v) : s.w.cell? ((⟨b, o, none⟩ : Addr).add j) = some v := by
  rw [List.getElem?_map] at hv
  obtain ⟨x, hx, rfl⟩ := Option.map_eq_some_iff.1 hv
  rw [Addr.add_mid, Src.X hb hc s j (List.getElem?_eq_some_iff.1 hx).1, hx]
  rfl

set_option maxRecDepth 100000 in
set_option maxHeartbeats 4000000 in
theorem take_A (h : Nat) (m l r : List Int) (v : V8) (a : Option Addr) (cap q0 : Nat) (w : World) (hq0 : m.length = 64 * q0) (hv : v = stF (byteAt m) q0) (hr : r.length = 64) (ho : w.heap[h]? = some (hashO v r m.length)) (hh : h ≠ 0) (hR : Roots w) (hsrc : Src w h a l)
    (hcap : l.length ≤ cap) (hcap2 : cap ≤ 9223372036854775807) (hm : m.length + l.length < 2305843009213693952) :
    Calls Tryd.prog 91 #[.pointer (some ⟨h, 0, none⟩), .slice a l.length cap] w (Takes h (m ++ l) (.tuple #[]) w) := by
  obtain ⟨M, hM⟩ : ∃ M, M = m ++ l := ⟨_, rfl⟩
  have hml : M.length = m.length + l.length := by rw [hM, List.length_append]
  have hv' : v = stF (byteAt M) q0 := by rw [hv]; exact stF_congr _ _ _ (fun i hi => by rw [hM, byteAt_append _ _ (by omega)])
  have hdrop : l = M.drop (64 * q0) := by rw [hM, ← hq0]; simp
  rw [← hM]
  have hmod : (m.length : Int) % 64 = 0 := by omega
  have hlen : ((m.length : Int) + (l.length : Int)) = (M.length : Int) := by omega
  have hln : l.length = M.length - 64 * q0 := by omega
  have hMb : M.length < 4611686018427387904 := by omega
  have hqM : 64 * q0 ≤ M.length := by omega
  rw [hdrop] at hsrc
  rw [hln] at hcap ⊢
  have c72 := cellN (w0 := w) (h := h) v r m.length hr (bs := [(h, hashO v r m.length)]) List.mem_cons_self (HeldX.start ho)
  have f72 := free_of ho 72
  clear hv hdrop hM hml hq0
  generalize m.length = n0 at *
  have HL := Lib.hid hlen
  have HV := Lib.hid hv'
  have HN := Lib.hid hln
  clear hlen hv' hln
  go_enter Tryd.func91, Tryd.ntmps91
  go_wp2
  have e0 : ((n0 : Int) + ((M.length - 64 * q0 : Nat) : Int)) = (M.length : Int) := by have h1 := HL.out; have h2 := HN.out; omega
  rw [e0]
  obtain ⟨s0, hs0⟩ : ∃ s0 : HeldX w h [(h, hashO v r M.length)], w.setCell ⟨h, 72, none⟩ (.int .i64 M.length) = s0.w := ⟨(HeldX.start ho).store (.inl rfl) (by simp) (hash_set_len v r _ _ hr), rfl⟩
  rw [hs0]
  obtain rfl := HV.out
  have HR := Lib.hid hR
  have HRL := Lib.hid hr
  have hsrc := Lib.hid hsrc
  clear hs0 e0 HV HL HN c72 f72 hmod ho hR hr
  go_loopw [1] (fun p wr => ∃ q : Nat, 64 * q ≤ M.length ∧ ∃ a' cap', p = .slice a' (M.length - 64 * q) cap' ∧ M.length - 64 * q ≤ cap' ∧ cap' ≤ cap ∧ Hid (Src w h a' (M.drop (64 * q))) ∧ ∃ r' : List Int, Hid (r'.length = 64) ∧ ∃ s : HeldX w h [(h, hashO (stF (byteAt M) q) r' M.length)], wr = s.w) (fun p _ => lenOf p)
  case atStart => exact ⟨_, hqM, a, cap, rfl, hcap, Nat.le_refl _, hsrc, _, Lib.hid HRL.out, s0, rfl⟩
  case round =>
    clear hsrc hqM hcap
    obtain ⟨q, hq, a', cap', rfl, hcp, hcp2, hsr, r', hr', s, rfl⟩ := hrel
    by_cases hge : 64 ≤ M.length - 64 * q
    · obtain ⟨b, o, rfl, hb, hc⟩ := hsr.out (by rw [List.length_drop]; omega)
      have hmx := fun s : HeldX w h [(h, hashO (stF (byteAt M) q) r' M.length)] => mix_any h (stF (byteAt M) q) r' M.length b o cap' (fun i => byteAt M (64 * q + i)) (by omega) (by omega) s.w (fun i hi => by
        have h1 := Src.X hb hc s i (by rw [List.length_drop]; omega)
        rw [h1, List.getElem?_drop]; rfl) (s.blocks (_, _) List.mem_cons_self) hh (HR.out.X hh s)
      have hmx2 := fun s : HeldX w h [(h, hashO (stF (byteAt M) q) r' M.length)] => HeldX.puts (s := s) (hmx s) (.inl rfl) (by simp)
      have HC := Lib.hid hc
      clear hmx hsr hc
      go_wp2
      refine wp_region_X_tail 5 s (by kernel_rfl) (by kernel_rfl) (fun hne => ?_)
      simp only [List.take_succ_cons, List.take_zero, List.drop_succ_cons, List.drop_zero]
      clear s
      repeat (go_big_quiet_step (fail))
      refine wpQuiet_nil ?_
      rintro _ ⟨s, rfl⟩
      have hmx := hmx2 s
      clear hmx2
      go_wp2_with fail
      refine hmx.mono ?_
      rintro e _ ⟨rfl, s2, rfl⟩
      clear hmx s
      by_cases hcz : cap' = 64
      · obtain rfl : cap' = 64 := hcz
        have hz : M.length - 64 * q = 64 := by omega
        go_wp2
        go_roundw
        case rel => exact ⟨q + 1, by omega, _, 0, by rw [show M.length - 64 * (q + 1) = 0 by omega], by omega, by omega, Lib.hid (fun hp => by rw [List.length_drop] at hp; omega), r', hr', s2, rfl⟩
        case measure => simp [lenOf]; omega
      · go_wp2
        go_roundw
        case rel =>
          refine ⟨q + 1, by omega, _, cap' - 64, by rw [show M.length - 64 * (q + 1) = M.length - 64 * q - 64 by omega], by omega, by omega, Lib.hid (fun hp => ?_), r', hr', s2, rfl⟩
          refine ⟨b, o + 64, rfl, hb, fun i hi => ?_⟩
          rw [List.length_drop] at hi
          have h1 := HC.out (64 + i) (by rw [List.length_drop]; omega)
          rw [List.getElem?_drop] at h1 ⊢
          rw [show o + 64 + i = o + (64 + i) by omega, h1, show 64 * q + (64 + i) = 64 * (q + 1) + i by omega]
        case measure => simp [lenOf]; omega
    · have hcn : ((M.drop (64 * q)).map (Value.int .u8)).length = Nat.min (M.length - 64 * q) 64 := by rw [List.length_map, List.length_drop]; exact (Nat.min_eq_left (by omega)).symm
      have hft : 8 + ((M.drop (64 * q)).map (Value.int .u8)).length ≤ (hashL (stF (byteAt M) q) r' M.length).length := by rw [hashL_length _ _ _ hr'.out, List.length_map, List.length_drop]; omega
      have hps : 0 < ((M.drop (64 * q)).map (Value.int .u8)).length → some (⟨h, 8, none⟩ : Addr) = some ⟨h, 8, none⟩ ∧ ∃ ad, a' = some ad ∧ ∀ j v, ((M.drop (64 * q)).map (Value.int .u8))[j]? = some v → s.w.cell? (ad.add j) = some v := fun hp => by
        rw [List.length_map] at hp
        obtain ⟨b, o, rfl, hb, hc⟩ := hsr.out hp
        exact ⟨rfl, _, rfl, fun j v hv => cell_src hb hc s hv⟩
      have HE := Lib.hid (inv_end M r' q hr'.out hq (by omega))
      have HS0 := Lib.hid (hashL_splice (stF (byteAt M) q) r' M.length 0 (M.drop (64 * q)) (by rw [hr'.out, List.length_drop]; omega))
      clear hsr
      go_wp2_with (refine wpList_copy_X (P := Tryd.prog) 8 (hashL (stF (byteAt M) q) r' M.length) 134 s (.inl rfl) (by simp) (.tmp 58) (.tmp 59) 22 22 rfl rfl 5 Tryd.underlying22 (by kernel_rfl) (some ⟨h, 8, none⟩) a' 64 64 (M.length - 64 * q) cap' rfl rfl ((M.drop (64 * q)).map (Value.int .u8)) hcn _ rfl hps hft (one_bytes _) ?_; intro s3)
      go_end0
      refine ⟨rfl, s3.but, _, ?_, HE.out⟩
      have h3 : s3.w.heap[h]? = some (.cells (splice (hashL (stF (byteAt M) q) r' M.length) 8 ((M.drop (64 * q)).map (Value.int .u8))).toArray 134 (0, 0)) := s3.blocks (_, _) List.mem_cons_self
      have h4 : splice (hashL (stF (byteAt M) q) r' M.length) 8 ((M.drop (64 * q)).map (Value.int .u8)) = hashL (stF (byteAt M) q) (splice r' 0 (M.drop (64 * q))) M.length := HS0.out
      rw [h3, h4]
      rfl

/-- h.rest[u:]. -/
theorem slice_rest (h u : Nat) (hu : u ≤ 63) (w : World) : (Instr.sliceAt 132 (.pointer (some ⟨h, 8, none⟩)) (some (.int .i64 (u : Int))) none none).run Tryd.prog w = .ok (.slice (some ⟨h, 8 + u, none⟩) (64 - u) (64 - u)) w := by
  have hal : Tryd.prog.arrayLen 132 = 64 := by kernel_rfl
  have hs : ∀ w, (sizeOf (Tryd.prog.elem 132)).run Tryd.prog w = .ok 1 w := fun w => by kernel_rfl
  rw [run_sliceAt_array_l w 132 ⟨h, 8, none⟩ (by kernel_rfl) .i64 (u : Int) (by omega) (by rw [hal]; omega), hs, hal]
  simp only [Result.andThen, slicedAt, Int.toNat_natCast]
  rw [if_neg (by omega), Addr.add_mid, Nat.mul_one]

/-- Fewer bytes than the block lacks. -/
theorem inv_few (m l r : List Int) (hr : r.length = 64) (hm : ∀ i, i < m.length % 64 → r[i]? = m[m.length / 64 * 64 + i]?) (hlt : m.length % 64 + l.length < 64) :
    Inv (m ++ l) (hashO (stF (byteAt m) (m.length / 64)) (splice r (m.length % 64) l) ((m ++ l).length : Nat)) := by
  have hfit : m.length % 64 + l.length ≤ r.length := by omega
  have hq : (m ++ l).length / 64 = m.length / 64 := by rw [List.length_append]; omega
  have hu : (m ++ l).length % 64 = m.length % 64 + l.length := by rw [List.length_append]; omega
  refine ⟨_, by rw [splice_length _ _ _ hfit, hr], fun i hi => ?_, by rw [hq, stF_congr (byteAt m) (byteAt (m ++ l)) _ (fun i hi => (byteAt_append m l (by omega)).symm)]⟩
  rw [hu] at hi
  rw [hq]
  by_cases h : i < m.length % 64
  · rw [splice_low _ _ _ h hfit, hm i h, List.getElem?_append_left (by omega)]
  · obtain ⟨j, rfl⟩ : ∃ j, i = m.length % 64 + j := ⟨i - m.length % 64, by omega⟩
    rw [splice_in _ _ _ (by omega) hfit, List.getElem?_append_right (by omega)]
    congr 1
    omega

set_option maxRecDepth 100000 in
set_option maxHeartbeats 4000000 in
theorem take_B (h : Nat) (m l r : List Int) (v : V8) (a : Option Addr) (cap u : Nat) (w : World) (hu : m.length % 64 = u) (hu1 : 1 ≤ u) (hfew : u + l.length < 64) (hv : v = stF (byteAt m) (m.length / 64)) (hr : r.length = 64) (hrm : ∀ i, i < m.length % 64 → r[i]? = m[m.length / 64 * 64 + i]?)
    (ho : w.heap[h]? = some (hashO v r m.length)) (hsrc : Src w h a l) (hcap : l.length ≤ cap) (hcap2 : cap ≤ 9223372036854775807) (hm : m.length + l.length < 2305843009213693952) :
    Calls Tryd.prog 91 #[.pointer (some ⟨h, 0, none⟩), .slice a l.length cap] w (Takes h (m ++ l) (.tuple #[]) w) := by
  have HE := Lib.hid (inv_few m l r hr hrm (by omega))
  rw [← hv, hu] at HE
  rw [List.length_append] at HE
  have hmod : (m.length : Int) % 64 = (u : Int) := by omega
  have hsl := slice_rest h u (by omega)
  have c72 := cellN (w0 := w) (h := h) v r m.length hr (bs := [(h, hashO v r m.length)]) List.mem_cons_self (HeldX.start ho)
  have f72 := free_of ho 72
  have HSP := fun n : Int => hashL_splice v r n u l (by omega)
  have HSPH := Lib.hid HSP
  have hL := fun n : Int => hashL_length v r n hr
  have HLH := Lib.hid hL
  have HSR := Lib.hid hsrc
  have HM := Lib.hid hr
  clear hv hrm hsrc hr hu HSP hL
  generalize hn0 : m.length = n0 at *
  have HN0 := Lib.hid hn0
  clear hn0
  obtain ⟨s0, hs0⟩ : ∃ s0 : HeldX w h [(h, hashO v r (n0 + l.length))], s0.w = w.setCell ⟨h, 72, none⟩ (.int .i64 (n0 + l.length)) := ⟨(HeldX.start ho).store (.inl rfl) (by simp) (hash_set_len v r _ _ HM.out), rfl⟩
  have hcn : (l.map (Value.int .u8)).length = Nat.min l.length (64 - u) := by rw [List.length_map]; exact (Nat.min_eq_left (by omega)).symm
  have hft : 8 + u + (l.map (Value.int .u8)).length ≤ (hashL v r (n0 + l.length)).length := by rw [hashL_length _ _ _ HM.out, List.length_map]; omega
  have hps : 0 < (l.map (Value.int .u8)).length → some (⟨h, 8 + u, none⟩ : Addr) = some ⟨h, 8 + u, none⟩ ∧ ∃ ad, a = some ad ∧ ∀ j v, (l.map (Value.int .u8))[j]? = some v → s0.w.cell? (ad.add j) = some v := fun hp => by
    rw [List.length_map] at hp
    obtain ⟨b, o, rfl, hb, hc⟩ := HSR.out hp
    exact ⟨rfl, _, rfl, fun j v hv => cell_src hb hc s0 hv⟩
  have HCN := Lib.hid hcn
  have HS0 := Lib.hid hs0
  have HPS := Lib.hid hps
  have HFT := Lib.hid hft
  have hml : (l.map (Value.int .u8)).length = l.length := List.length_map _
  have HML := Lib.hid hml
  clear hcn hs0 hps hft hml
  go_enter Tryd.func91, Tryd.ntmps91
  go_wp2_with (rw [← HS0.out]; refine wpList_copy_X (P := Tryd.prog) (8 + u) (hashL v r (n0 + l.length)) 134 s0 (.inl rfl) (by simp) (.tmp 26) (.tmp 27) 22 22 rfl rfl 5 Tryd.underlying22 (by kernel_rfl) (some ⟨h, 8 + u, none⟩) a (64 - u) (64 - u) l.length cap rfl rfl (l.map (Value.int .u8)) HCN.out l.length HML.out HPS.out HFT.out (one_bytes _) ?_; intro s3)
  go_end0
  refine ⟨rfl, s3.but, _, ?_, HE.out⟩
  have h3 : s3.w.heap[h]? = some (.cells (splice (hashL v r (n0 + l.length)) (8 + u) (l.map (Value.int .u8))).toArray 134 (0, 0)) := s3.blocks (_, _) List.mem_cons_self
  rw [h3, HSPH.out]
  rfl

/-- What fills the block. -/
theorem fill_at (m l r : List Int) (q0 u : Nat) (hm : m.length = 64 * q0 + u) (hu : u < 64) (hr : r.length = 64) (hrm : ∀ i, i < u → r[i]? = m[64 * q0 + i]?) (hl : 64 ≤ u + l.length) {i : Nat} (hi : i < 64) :
    (splice r u (l.take (64 - u)))[i]?.getD 0 = byteAt (m ++ l) (64 * q0 + i) := by
  have hlt : (l.take (64 - u)).length = 64 - u := by rw [List.length_take]; omega
  unfold byteAt
  by_cases h : i < u
  · rw [splice_low _ _ _ h (by omega), hrm i h, List.getElem?_append_left (by omega)]
  · obtain ⟨j, rfl⟩ : ∃ j, i = u + j := ⟨i - u, by omega⟩
    rw [splice_in _ _ _ (by omega) (by omega), List.getElem?_append_right (by omega), List.getElem?_take, if_pos (by omega)]
    congr 2
    omega

def HeldX.as {w0 : World} {h : Nat} {o o' : Obj} (s : HeldX w0 h [(h, o)]) (e : o = o') : HeldX w0 h [(h, o')] := ⟨s.w, s.but, by rw [← e]; exact s.blocks⟩

set_option maxRecDepth 100000 in
set_option maxHeartbeats 8000000 in
theorem take_C (h : Nat) (m l r : List Int) (v : V8) (b o cap u q0 : Nat) (w : World) (hq0 : m.length = 64 * q0 + u) (hu1 : 1 ≤ u) (hu64 : u < 64) (hmany : 64 ≤ u + l.length) (hv : v = stF (byteAt m) q0) (hr : r.length = 64) (hrm : ∀ i, i < u → r[i]? = m[64 * q0 + i]?)
    (ho : w.heap[h]? = some (hashO v r m.length)) (hh : h ≠ 0) (hR : Roots w) (hb : b ≠ h) (hc : ∀ i, i < l.length → w.cell? ⟨b, o + i, none⟩ = some (.int .u8 (l[i]?.getD 0))) (hcap : l.length ≤ cap) (hcap2 : cap ≤ 9223372036854775807) (hm : m.length + l.length < 2305843009213693952) :
    Calls Tryd.prog 91 #[.pointer (some ⟨h, 0, none⟩), .slice (some ⟨b, o, none⟩) l.length cap] w (Takes h (m ++ l) (.tuple #[]) w) := by
  have hfill := fun i hi => fill_at m l r q0 u hq0 hu64 hr hrm hmany (i := i) hi
  obtain ⟨M, hM⟩ : ∃ M, M = m ++ l := ⟨_, rfl⟩
  rw [← hM] at hfill ⊢
  have hml : M.length = m.length + l.length := by rw [hM, List.length_append]
  have hv' : v = stF (byteAt M) q0 := by rw [hv]; exact stF_congr _ _ _ (fun i hi => by rw [hM, byteAt_append _ _ (by omega)])
  clear hv
  subst hv'
  have hdrop : ∀ i, (M.drop (64 * (q0 + 1)))[i]? = l[64 - u + i]? := fun i => by
    rw [List.getElem?_drop, hM, List.getElem?_append_right (by omega)]; congr 1; omega
  have hmod : (m.length : Int) % 64 = (u : Int) := by omega
  have hMb : M.length < 4611686018427387904 := by omega
  have hqM : 64 * (q0 + 1) ≤ M.length := by omega
  have hrest : M.length - 64 * (q0 + 1) = l.length - (64 - u) := by omega
  have hNN : ((m.length : Int) + (l.length : Int)) = (M.length : Int) := by omega
  have c72 : w.cell? ⟨h, 72, none⟩ = some (.int .i64 m.length) := cellN (w0 := w) (h := h) (stF (byteAt M) q0) r m.length hr (bs := [(h, hashO (stF (byteAt M) q0) r m.length)]) List.mem_cons_self (HeldX.start ho)
  have f72 := free_of ho 72
  have hsl := slice_rest h u (by omega)
  obtain ⟨s0, hs0⟩ : ∃ s0 : HeldX w h [(h, hashO (stF (byteAt M) q0) r M.length)], s0.w = w.setCell ⟨h, 72, none⟩ (.int .i64 (m.length + l.length)) := ⟨(HeldX.start ho).store (.inl rfl) (by simp) (by rw [hNN]; exact hash_set_len _ r _ _ hr), rfl⟩
  have htl : (l.take (64 - u)).length = 64 - u := by rw [List.length_take]; omega
  have hcn : ((l.take (64 - u)).map (Value.int .u8)).length = Nat.min l.length (64 - u) := by rw [List.length_map, htl]; exact (Nat.min_eq_right (by omega)).symm
  have hk : ((l.take (64 - u)).map (Value.int .u8)).length = 64 - u := by rw [List.length_map, htl]
  have hft : 8 + u + ((l.take (64 - u)).map (Value.int .u8)).length ≤ (hashL (stF (byteAt M) q0) r M.length).length := by rw [hashL_length _ _ _ hr, hk]; omega
  have hps : 0 < ((l.take (64 - u)).map (Value.int .u8)).length → some (⟨h, 8 + u, none⟩ : Addr) = some ⟨h, 8 + u, none⟩ ∧ ∃ ad, some (⟨b, o, none⟩ : Addr) = some ad ∧ ∀ j v, ((l.take (64 - u)).map (Value.int .u8))[j]? = some v → s0.w.cell? (ad.add j) = some v := fun _ =>
    ⟨rfl, _, rfl, fun j v hv => cell_src (l := l) hb hc s0 (by
      rw [List.getElem?_map, List.getElem?_take] at hv
      rw [List.getElem?_map]
      split at hv
      · exact hv
      · simp at hv)⟩
  have hsp := hashL_splice (stF (byteAt M) q0) r M.length u (l.take (64 - u)) (by omega)
  have hr1 : (splice r u (l.take (64 - u))).length = 64 := by rw [splice_length _ _ _ (by omega), hr]
  generalize splice r u (l.take (64 - u)) = r1 at hfill hsp hr1
  have hmx := fun s : HeldX w h [(h, hashO (stF (byteAt M) q0) r1 M.length)] => mix_any h (stF (byteAt M) q0) r1 M.length h 8 64 (fun i => byteAt M (64 * q0 + i)) (by omega) (by omega) s.w (fun i hi => by
    rw [cell_of (s.blocks (_, _) List.mem_cons_self), hash_rest _ _ _ hr1 hi, hfill i hi]) (s.blocks (_, _) List.mem_cons_self) hh (hR.X hh s)
  have hmx2 := fun s : HeldX w h [(h, hashO (stF (byteAt M) q0) r1 M.length)] => HeldX.puts (s := s) (hmx s) (.inl rfl) (by simp)
  have hd1 : decide ((u : Int) + ((64 - u : Nat) : Int) < 64) = false := by simp; omega
  have HMX := Lib.hid hmx2
  have HCN := Lib.hid hcn
  have HS0 := Lib.hid hs0
  have HPS := Lib.hid hps
  have HFT := Lib.hid hft
  have HK := Lib.hid hk
  have HSP := Lib.hid hsp
  have HR := Lib.hid hR
  have HR1 := Lib.hid hr1
  have HC := Lib.hid hc
  have HREST := Lib.hid hrest
  have HD := Lib.hid hdrop
  have hll : 64 - u ≤ l.length := by omega
  clear hmx hmx2 hcn hs0 hps hft hk hsp hR hr1 hc hrest hfill hNN hml hM hdrop hr hrm htl ho hq0
  generalize hn0 : m.length = n0 at *
  clear hn0
  by_cases hcz : cap = 64 - u
  · go_enter Tryd.func91, Tryd.ntmps91
    go_wp2_with (rw [← HS0.out]; refine wpList_copy_X (P := Tryd.prog) (8 + u) (hashL (stF (byteAt M) q0) r M.length) 134 s0 (.inl rfl) (by simp) (.tmp 26) (.tmp 27) 22 22 rfl rfl 5 Tryd.underlying22 (by kernel_rfl) (some ⟨h, 8 + u, none⟩) (some ⟨b, o, none⟩) (64 - u) (64 - u) l.length cap rfl rfl ((l.take (64 - u)).map (Value.int .u8)) HCN.out (64 - u) HK.out HPS.out HFT.out (one_bytes _) ?_; intro s3)
    obtain ⟨s4, hs4⟩ : ∃ s4 : HeldX w h [(h, hashO (stF (byteAt M) q0) r1 M.length)], s3.w = s4.w := ⟨s3.as (by rw [HSP.out]; rfl), rfl⟩
    rw [hs4]
    clear hs4 s3 HCN HS0 HPS HFT HK HSP s0 hsl f72 c72 hd1 hmod
    refine wp_region_X_tail 7 s4 (by kernel_rfl) (by kernel_rfl) (fun hne => ?_)
    simp only [List.take_succ_cons, List.take_zero, List.drop_succ_cons, List.drop_zero]
    clear s4
    repeat (go_big_quiet_step (fail))
    refine wpQuiet_nil ?_
    rintro _ ⟨s5, rfl⟩
    have hmx := HMX.out s5
    clear HMX hne
    go_wp2_with fail
    refine hmx.mono ?_
    rintro e _ ⟨rfl, s6, rfl⟩
    clear hmx s5
    go_wp2
    go_loopw [1] (fun p wr => ∃ q : Nat, 64 * q ≤ M.length ∧ ∃ a' cap', p = .slice a' (M.length - 64 * q) cap' ∧ M.length - 64 * q ≤ cap' ∧ cap' ≤ cap ∧ Hid (Src w h a' (M.drop (64 * q))) ∧ ∃ r' : List Int, Hid (r'.length = 64) ∧ ∃ s : HeldX w h [(h, hashO (stF (byteAt M) q) r' M.length)], wr = s.w) (fun p _ => lenOf p)
    case atStart =>
      first
        | refine ⟨q0 + 1, hqM, _, cap - (64 - u), by rw [HREST.out], by rw [HREST.out]; omega, by omega, Lib.hid (fun hp => ?_), r1, HR1, s6, rfl⟩
        | refine ⟨q0 + 1, hqM, _, 0, by rw [HREST.out], by rw [HREST.out]; omega, by omega, Lib.hid (fun hp => ?_), r1, HR1, s6, rfl⟩
      rw [List.length_drop] at hp
      first
        | (exfalso; have h1 := HREST.out; omega)
        | (refine ⟨b, _, rfl, hb, fun i hi => ?_⟩
           rw [List.length_drop] at hi
           have h1 := HREST.out
           rw [HD.out i]
           have h2 := HC.out (64 - u + i) (by omega)
           rw [← h2, Nat.add_assoc])
    case round =>
      clear HC HD HREST s6
      obtain ⟨q, hq, a', cap', rfl, hcp, hcp2, hsr, r', hr', s, rfl⟩ := hrel
      by_cases hge : 64 ≤ M.length - 64 * q
      · exfalso; omega
      · have hcn : ((M.drop (64 * q)).map (Value.int .u8)).length = Nat.min (M.length - 64 * q) 64 := by rw [List.length_map, List.length_drop]; exact (Nat.min_eq_left (by omega)).symm
        have hft : 8 + ((M.drop (64 * q)).map (Value.int .u8)).length ≤ (hashL (stF (byteAt M) q) r' M.length).length := by rw [hashL_length _ _ _ hr'.out, List.length_map, List.length_drop]; omega
        have hps : 0 < ((M.drop (64 * q)).map (Value.int .u8)).length → some (⟨h, 8, none⟩ : Addr) = some ⟨h, 8, none⟩ ∧ ∃ ad, a' = some ad ∧ ∀ j v, ((M.drop (64 * q)).map (Value.int .u8))[j]? = some v → s.w.cell? (ad.add j) = some v := fun hp => by
          rw [List.length_map] at hp
          obtain ⟨b, o, rfl, hb, hc⟩ := hsr.out hp
          exact ⟨rfl, _, rfl, fun j v hv => cell_src hb hc s hv⟩
        have HE := Lib.hid (inv_end M r' q hr'.out hq (by omega))
        have HS0 := Lib.hid (hashL_splice (stF (byteAt M) q) r' M.length 0 (M.drop (64 * q)) (by rw [hr'.out, List.length_drop]; omega))
        clear hsr
        go_wp2_with (refine wpList_copy_X (P := Tryd.prog) 8 (hashL (stF (byteAt M) q) r' M.length) 134 s (.inl rfl) (by simp) (.tmp 58) (.tmp 59) 22 22 rfl rfl 5 Tryd.underlying22 (by kernel_rfl) (some ⟨h, 8, none⟩) a' 64 64 (M.length - 64 * q) cap' rfl rfl ((M.drop (64 * q)).map (Value.int .u8)) hcn _ rfl hps hft (one_bytes _) ?_; intro s3)
        go_end0
        refine ⟨rfl, s3.but, _, ?_, HE.out⟩
        have h3 : s3.w.heap[h]? = some (.cells (splice (hashL (stF (byteAt M) q) r' M.length) 8 ((M.drop (64 * q)).map (Value.int .u8))).toArray 134 (0, 0)) := s3.blocks (_, _) List.mem_cons_self
        have h4 : splice (hashL (stF (byteAt M) q) r' M.length) 8 ((M.drop (64 * q)).map (Value.int .u8)) = hashL (stF (byteAt M) q) (splice r' 0 (M.drop (64 * q))) M.length := HS0.out
        rw [h3, h4]
        rfl
  · go_enter Tryd.func91, Tryd.ntmps91
    go_wp2_with (rw [← HS0.out]; refine wpList_copy_X (P := Tryd.prog) (8 + u) (hashL (stF (byteAt M) q0) r M.length) 134 s0 (.inl rfl) (by simp) (.tmp 26) (.tmp 27) 22 22 rfl rfl 5 Tryd.underlying22 (by kernel_rfl) (some ⟨h, 8 + u, none⟩) (some ⟨b, o, none⟩) (64 - u) (64 - u) l.length cap rfl rfl ((l.take (64 - u)).map (Value.int .u8)) HCN.out (64 - u) HK.out HPS.out HFT.out (one_bytes _) ?_; intro s3)
    obtain ⟨s4, hs4⟩ : ∃ s4 : HeldX w h [(h, hashO (stF (byteAt M) q0) r1 M.length)], s3.w = s4.w := ⟨s3.as (by rw [HSP.out]; rfl), rfl⟩
    rw [hs4]
    clear hs4 s3 HCN HS0 HPS HFT HK HSP s0 hsl f72 c72 hd1 hmod
    refine wp_region_X_tail 7 s4 (by kernel_rfl) (by kernel_rfl) (fun hne => ?_)
    simp only [List.take_succ_cons, List.take_zero, List.drop_succ_cons, List.drop_zero]
    clear s4
    repeat (go_big_quiet_step (fail))
    refine wpQuiet_nil ?_
    rintro _ ⟨s5, rfl⟩
    have hmx := HMX.out s5
    clear HMX hne
    go_wp2_with fail
    refine hmx.mono ?_
    rintro e _ ⟨rfl, s6, rfl⟩
    clear hmx s5
    go_wp2
    go_loopw [1] (fun p wr => ∃ q : Nat, 64 * q ≤ M.length ∧ ∃ a' cap', p = .slice a' (M.length - 64 * q) cap' ∧ M.length - 64 * q ≤ cap' ∧ cap' ≤ cap ∧ Hid (Src w h a' (M.drop (64 * q))) ∧ ∃ r' : List Int, Hid (r'.length = 64) ∧ ∃ s : HeldX w h [(h, hashO (stF (byteAt M) q) r' M.length)], wr = s.w) (fun p _ => lenOf p)
    case atStart =>
      first
        | refine ⟨q0 + 1, hqM, _, cap - (64 - u), by rw [HREST.out], by rw [HREST.out]; omega, by omega, Lib.hid (fun hp => ?_), r1, HR1, s6, rfl⟩
        | refine ⟨q0 + 1, hqM, _, 0, by rw [HREST.out], by rw [HREST.out]; omega, by omega, Lib.hid (fun hp => ?_), r1, HR1, s6, rfl⟩
      rw [List.length_drop] at hp
      first
        | (exfalso; have h1 := HREST.out; omega)
        | (refine ⟨b, _, rfl, hb, fun i hi => ?_⟩
           rw [List.length_drop] at hi
           have h1 := HREST.out
           rw [HD.out i]
           have h2 := HC.out (64 - u + i) (by omega)
           rw [← h2, Nat.add_assoc])
    case round =>
      clear HC HD HREST s6
      obtain ⟨q, hq, a', cap', rfl, hcp, hcp2, hsr, r', hr', s, rfl⟩ := hrel
      by_cases hge : 64 ≤ M.length - 64 * q
      · obtain ⟨b, o, rfl, hb, hc⟩ := hsr.out (by rw [List.length_drop]; omega)
        have hmx := fun s : HeldX w h [(h, hashO (stF (byteAt M) q) r' M.length)] => mix_any h (stF (byteAt M) q) r' M.length b o cap' (fun i => byteAt M (64 * q + i)) (by omega) (by omega) s.w (fun i hi => by
          have h1 := Src.X hb hc s i (by rw [List.length_drop]; omega)
          rw [h1, List.getElem?_drop]; rfl) (s.blocks (_, _) List.mem_cons_self) hh (HR.out.X hh s)
        have hmx2 := fun s : HeldX w h [(h, hashO (stF (byteAt M) q) r' M.length)] => HeldX.puts (s := s) (hmx s) (.inl rfl) (by simp)
        have HC := Lib.hid hc
        clear hmx hsr hc
        go_wp2
        refine wp_region_X_tail 5 s (by kernel_rfl) (by kernel_rfl) (fun hne => ?_)
        simp only [List.take_succ_cons, List.take_zero, List.drop_succ_cons, List.drop_zero]
        clear s
        repeat (go_big_quiet_step (fail))
        refine wpQuiet_nil ?_
        rintro _ ⟨s, rfl⟩
        have hmx := hmx2 s
        clear hmx2
        go_wp2_with fail
        refine hmx.mono ?_
        rintro e _ ⟨rfl, s2, rfl⟩
        clear hmx s
        by_cases hcz : cap' = 64
        · obtain rfl : cap' = 64 := hcz
          have hz : M.length - 64 * q = 64 := by omega
          go_wp2
          go_roundw
          case rel => exact ⟨q + 1, by omega, _, 0, by rw [show M.length - 64 * (q + 1) = 0 by omega], by omega, by omega, Lib.hid (fun hp => by rw [List.length_drop] at hp; omega), r', hr', s2, rfl⟩
          case measure => simp [lenOf]; omega
        · go_wp2
          go_roundw
          case rel =>
            refine ⟨q + 1, by omega, _, cap' - 64, by rw [show M.length - 64 * (q + 1) = M.length - 64 * q - 64 by omega], by omega, by omega, Lib.hid (fun hp => ?_), r', hr', s2, rfl⟩
            refine ⟨b, o + 64, rfl, hb, fun i hi => ?_⟩
            rw [List.length_drop] at hi
            have h1 := HC.out (64 + i) (by rw [List.length_drop]; omega)
            rw [List.getElem?_drop] at h1 ⊢
            rw [show o + 64 + i = o + (64 + i) by omega, h1, show 64 * q + (64 + i) = 64 * (q + 1) + i by omega]
          case measure => simp [lenOf]; omega
      · have hcn : ((M.drop (64 * q)).map (Value.int .u8)).length = Nat.min (M.length - 64 * q) 64 := by rw [List.length_map, List.length_drop]; exact (Nat.min_eq_left (by omega)).symm
        have hft : 8 + ((M.drop (64 * q)).map (Value.int .u8)).length ≤ (hashL (stF (byteAt M) q) r' M.length).length := by rw [hashL_length _ _ _ hr'.out, List.length_map, List.length_drop]; omega
        have hps : 0 < ((M.drop (64 * q)).map (Value.int .u8)).length → some (⟨h, 8, none⟩ : Addr) = some ⟨h, 8, none⟩ ∧ ∃ ad, a' = some ad ∧ ∀ j v, ((M.drop (64 * q)).map (Value.int .u8))[j]? = some v → s.w.cell? (ad.add j) = some v := fun hp => by
          rw [List.length_map] at hp
          obtain ⟨b, o, rfl, hb, hc⟩ := hsr.out hp
          exact ⟨rfl, _, rfl, fun j v hv => cell_src hb hc s hv⟩
        have HE := Lib.hid (inv_end M r' q hr'.out hq (by omega))
        have HS0 := Lib.hid (hashL_splice (stF (byteAt M) q) r' M.length 0 (M.drop (64 * q)) (by rw [hr'.out, List.length_drop]; omega))
        clear hsr
        go_wp2_with (refine wpList_copy_X (P := Tryd.prog) 8 (hashL (stF (byteAt M) q) r' M.length) 134 s (.inl rfl) (by simp) (.tmp 58) (.tmp 59) 22 22 rfl rfl 5 Tryd.underlying22 (by kernel_rfl) (some ⟨h, 8, none⟩) a' 64 64 (M.length - 64 * q) cap' rfl rfl ((M.drop (64 * q)).map (Value.int .u8)) hcn _ rfl hps hft (one_bytes _) ?_; intro s3)
        go_end0
        refine ⟨rfl, s3.but, _, ?_, HE.out⟩
        have h3 : s3.w.heap[h]? = some (.cells (splice (hashL (stF (byteAt M) q) r' M.length) 8 ((M.drop (64 * q)).map (Value.int .u8))).toArray 134 (0, 0)) := s3.blocks (_, _) List.mem_cons_self
        have h4 : splice (hashL (stF (byteAt M) q) r' M.length) 8 ((M.drop (64 * q)).map (Value.int .u8)) = hashL (stF (byteAt M) q) (splice r' 0 (M.drop (64 * q))) M.length := HS0.out
        rw [h3, h4]
        rfl
end Go.Proofs.YtdedfjkenbaebaaDoor

/- take, New, Len and Clone of package sha. -/
namespace Go.Proofs.YtdedfjkenbaebaaDoor
open Go.RowKit
set_option linter.unusedVariables false

theorem take_any (h : Nat) (m l : List Int) (o : Obj) (a : Option Addr) (cap : Nat) (w : World) (hinv : Inv m o) (ho : w.heap[h]? = some o) (hh : h ≠ 0) (hR : Roots w) (hsrc : Src w h a l)
    (hcap : l.length ≤ cap) (hcap2 : cap ≤ 9223372036854775807) (hm : m.length + l.length < 2305843009213693952) :
    Calls Tryd.prog 91 #[.pointer (some ⟨h, 0, none⟩), .slice a l.length cap] w (Takes h (m ++ l) (.tuple #[]) w) := by
  obtain ⟨r, hr, hrm, rfl⟩ := hinv
  by_cases hu : m.length % 64 = 0
  · exact take_A h m l r _ a cap (m.length / 64) w (by omega) rfl hr ho hh hR hsrc hcap hcap2 hm
  · by_cases hf : m.length % 64 + l.length < 64
    · exact take_B h m l r _ a cap (m.length % 64) w rfl (by omega) hf rfl hr hrm ho hsrc hcap hcap2 hm
    · obtain ⟨b, o, rfl, hb, hc⟩ := hsrc (by omega)
      exact take_C h m l r _ b o cap (m.length % 64) (m.length / 64) w (by omega) (by omega) (by omega) (by omega) rfl hr (fun i hi => by rw [hrm i hi, Nat.mul_comm]) ho hh hR hb hc hcap hcap2 hm

/-- A callee that takes bytes into block g. -/
theorem HeldX.takes {P : Program} {f : FuncId} {args : Array Value} {v : Value} {w0 : World} {h g : Nat} {m : List Int} {o : Obj} {bs : List (Nat × Obj)} {s : HeldX w0 h ((g, o) :: bs)} (hc : Calls P f args s.w (Takes g m v s.w))
    (hg : g = h ∨ w0.heap.size ≤ g) (hne : ∀ p ∈ bs, p.1 ≠ g) :
    Calls P f args s.w fun e w'' => e = .returned v ∧ ∃ o', Hid (Inv m o') ∧ ∃ s' : HeldX w0 h ((g, o') :: bs), w'' = s'.w :=
  hc.mono fun _ w'' ⟨he, hb, o', ho, hi⟩ => ⟨he, o', hi, ⟨w'', s.but.trans ⟨hb.os, hb.tape, hb.output, hb.size, fun k hk hn => hb.block k (Nat.lt_of_lt_of_le hk s.but.size) (by rcases hg with rfl | hg <;> omega)⟩,
    List.forall_mem_cons.2 ⟨ho, fun p hp => (hb.block _ (Array.getElem?_eq_some_iff.1 (s.blocks p (List.mem_cons_of_mem _ hp))).1 (hne p hp)).trans (s.blocks p (List.mem_cons_of_mem _ hp))⟩⟩, rfl⟩
theorem HeldW.takes {P : Program} {f : FuncId} {args : Array Value} {v : Value} {w0 : World} {g : Nat} {m : List Int} {o : Obj} {bs : List (Nat × Obj)} {s : HeldW w0 ((g, o) :: bs)} (hc : Calls P f args s.w (Takes g m v s.w))
    (hg : w0.heap.size ≤ g) (hne : ∀ p ∈ bs, p.1 ≠ g) :
    Calls P f args s.w fun e w'' => e = .returned v ∧ ∃ o', Hid (Inv m o') ∧ ∃ s' : HeldW w0 ((g, o') :: bs), w'' = s'.w :=
  hc.mono fun _ w'' ⟨he, hb, o', ho, hi⟩ => ⟨he, o', hi, ⟨w'', s.below.trans ⟨hb.os, hb.tape, hb.output, hb.size, fun k hk => hb.block k (Nat.lt_of_lt_of_le hk s.below.size) (by omega)⟩,
    List.forall_mem_cons.2 ⟨ho, fun p hp => (hb.block _ (Array.getElem?_eq_some_iff.1 (s.blocks p (List.mem_cons_of_mem _ hp))).1 (hne p hp)).trans (s.blocks p (List.mem_cons_of_mem _ hp))⟩⟩, rfl⟩

/-- It returns a new hash that has taken m. -/
def Makes (m : List Int) (w : World) (e : Ending) (w' : World) : Prop := ∃ g o, e = .returned (.pointer (some ⟨g, 0, none⟩)) ∧ w.heap.size ≤ g ∧ Below w.heap.size w w' ∧ w'.heap[g]? = some o ∧ Inv m o
theorem HeldW.makes {P : Program} {f : FuncId} {args : Array Value} {w0 : World} {m : List Int} {bs : List (Nat × Obj)} {s : HeldW w0 bs} (hc : Calls P f args s.w (Makes m s.w)) :
    Calls P f args s.w fun e w'' => ∃ g o, e = .returned (.pointer (some ⟨g, 0, none⟩)) ∧ w0.heap.size ≤ g ∧ Hid (∀ p ∈ bs, p.1 ≠ g) ∧ Hid (Inv m o) ∧ ∃ s' : HeldW w0 ((g, o) :: bs), w'' = s'.w :=
  hc.mono fun _ w'' ⟨g, o, he, hg, hb, ho, hi⟩ => ⟨g, o, he, Nat.le_trans s.below.size hg, fun p hp e => by have := (Array.getElem?_eq_some_iff.1 (s.blocks p hp)).1; omega, hi,
    ⟨w'', s.below.trans (hb.mono s.below.size), List.forall_mem_cons.2 ⟨ho, fun p hp => (hb.block _ (Array.getElem?_eq_some_iff.1 (s.blocks p hp)).1).trans (s.blocks p hp)⟩⟩, rfl⟩

set_option maxRecDepth 100000 in
theorem initial_any (w : World) : Calls Tryd.prog 90 #[] w (Gives (.agg #[.int .u32 1779033703, .int .u32 3144134277, .int .u32 1013904242, .int .u32 2773480762, .int .u32 1359893119, .int .u32 2600822924, .int .u32 528734635, .int .u32 1541459225]) w) := by
  go_enter Tryd.func90, Tryd.ntmps90
  go_wp2
  refine bodyPost_ret (v := .agg #[.int .u32 1779033703, .int .u32 3144134277, .int .u32 1013904242, .int .u32 2773480762, .int .u32 1359893119, .int .u32 2600822924, .int .u32 528734635, .int .u32 1541459225]) (by simp [results, Tryd.results90, go_sem]) rfl ⟨rfl, ?_⟩
  exact (Below.refl _ w).alloc (Nat.le_refl _) _

/-- A new hash. -/
theorem inv_new : Inv [] (hashO initV (List.replicate 64 0) 0) := ⟨_, by simp, fun i hi => by simp at hi, rfl⟩

set_option maxRecDepth 100000 in
theorem new_any (w : World) : Calls Tryd.prog 62 #[] w (Makes [] w) := by
  have hi := initial_any w
  go_enter Tryd.func62, Tryd.ntmps62
  go_wp2_with fail
  refine (HeldW.call (s := HeldW.start w) hi).mono ?_
  rintro e _ ⟨rfl, s, rfl⟩
  clear hi
  go_wp2_with (refine wpList_buildTo rfl 134 _ rfl (some 2) rfl (hashA initV (List.replicate 64 0) 0) (by kernel_rfl) ?_)
  go_ret
  exact ⟨_, _, rfl, s.below.size, s.below.alloc s.below.size _, heap_new s.w (hashO initV (List.replicate 64 0) 0) rfl, inv_new⟩

theorem hash_size (v : V8) (r : List Int) (n : Int) (h : r.length = 64) : (hashA v r n).size = 73 := by rw [← hashL_eq, List.size_toArray, hashL_length v r n h]
theorem hash_one (v : V8) (r : List Int) (n : Int) : (hashA v r n).all (·.oneCell') = true := by
  rw [Array.all_eq_true_iff_forall_mem]
  intro x hx
  rw [← hashL_eq, List.mem_toArray, hashL] at hx
  simp only [List.mem_cons, List.mem_append, List.mem_map, List.not_mem_nil, or_false] at hx
  rcases hx with rfl | rfl | rfl | rfl | rfl | rfl | rfl | rfl | ⟨_, _, rfl⟩ | rfl <;> rfl
/-- An empty block of a hash. -/
abbrev zeroV : V8 := ⟨0, 0, 0, 0, 0, 0, 0, 0⟩
def zeroA : Array Value := hashA zeroV (List.replicate 64 0) 0
theorem zero_hash (w : World) : (zeroValue 134).run Tryd.prog w = .ok (.agg zeroA) w := by kernel_rfl

end Go.Proofs.YtdedfjkenbaebaaDoor

/- Write of package sha. -/
namespace Go.Proofs.YtdedfjkenbaebaaDoor
open Go.RowKit
set_option linter.unusedVariables false

theorem Src.at {w : World} {h : Nat} {a : Option Addr} {l : List Int} (hs : Src w h a l) {bs : List (Nat × Obj)} (s : HeldX w h bs) : Src s.w h a l := fun hp => by
  obtain ⟨b, o, rfl, hb, hc⟩ := hs hp
  exact ⟨b, o, rfl, hb, Src.X hb hc s⟩
theorem inv_len {M : List Int} {o : Obj} (hi : Inv M o) {w : World} {h : Nat} (ho : w.heap[h]? = some o) : w.cell? ⟨h, 72, none⟩ = some (.int .i64 M.length) := by
  obtain ⟨r, hr, _, rfl⟩ := hi
  rw [cell_of ho, hash_len _ r _ hr]

set_option maxRecDepth 100000 in
set_option maxHeartbeats 4000000 in
theorem write_any (h : Nat) (m : List Int) (ls : List (List Int)) (o : Obj) (pa : Option Addr) (pcap : Nat) (w : World) (hinv : Inv m o) (ho : w.heap[h]? = some o) (hh : h ≠ 0) (hR : Roots w) (hparts : PartsAt w h pa ls)
    (hn : ls.length < 2305843009213693952) (hm : m.length + ls.flatten.length < 2305843009213693952) :
    Calls Tryd.prog 63 #[.pointer (some ⟨h, 0, none⟩), .slice pa ls.length pcap] w (Takes h (m ++ ls.flatten) (.int .i64 ls.flatten.length) w) := by
  obtain ⟨T, hT⟩ : ∃ T, ls.flatten.length = T := ⟨_, rfl⟩
  rw [hT] at hm ⊢
  have HT := Lib.hid hT
  clear hT
  have c72 := inv_len hinv ho
  have HI := Lib.hid hinv
  have HR := Lib.hid hR
  have HP := Lib.hid hparts
  have HO := Lib.hid ho
  clear hinv hR hparts ho
  go_enter Tryd.func63, Tryd.ntmps63
  go_wp2
  go_loopw [7, 16] (fun _ i wr => ∃ k : Nat, k ≤ ls.length ∧ i = .int .i64 k ∧ ∃ o' : Obj, Hid (Inv (m ++ (ls.take k).flatten) o') ∧ ∃ s : HeldX w h [(h, o')], wr = s.w) (fun _ i _ => ls.length - (intOf i).toNat)
  case atStart => exact ⟨0, by omega, rfl, o, Lib.hid (by simpa using HI.out), HeldX.start HO.out, rfl⟩
  case round =>
    clear c72
    obtain ⟨k, hk, rfl, o', hi, s, rfl⟩ := hrel
    by_cases hlt : k < ls.length
    · obtain ⟨b, o2, rfl, hb, hc⟩ := HP.out (by omega)
      obtain ⟨a, cap, hcell, hcap, hcap2, hsrc⟩ := hc k hlt
      have hle := take_flat_le ls (k + 1)
      rw [take_flat ls hlt, List.length_append, HT.out] at hle
      have hcs : s.w.cell? ⟨b, o2 + k, none⟩ = some (.slice a (partOf ls k).length cap) := by
        rw [← hcell]; unfold World.cell?; rw [s.but.block b (World.block_lt_of_cell? w _ hcell) hb]
      have ht := take_any h (m ++ (ls.take k).flatten) (partOf ls k) o' a cap s.w hi.out (s.blocks (_, _) List.mem_cons_self) hh (HR.out.X hh s) (hsrc.at s) hcap hcap2 (by rw [List.length_append]; omega)
      rw [List.append_assoc, ← take_flat ls hlt] at ht
      have ht2 := HeldX.takes (s := s) ht (.inl rfl) (by simp)
      clear ht hc hcell hsrc hle hi
      generalize partOf ls k = l at hcs ht2 hcap
      go_wp2_with fail
      refine ht2.mono ?_
      rintro e _ ⟨rfl, o3, hi, s2, rfl⟩
      clear ht2 hcs s
      go_wp2
      go_roundw
      case rel => exact ⟨k + 1, by omega, by go_num, o3, hi, s2, rfl⟩
      case measure => simp [intOf]; omega
    · obtain rfl : k = ls.length := by omega
      rw [List.take_length] at hi
      have c72 := inv_len hi.out (s.blocks (_, _) List.mem_cons_self)
      have hlen : (m ++ ls.flatten).length = m.length + T := by rw [List.length_append, HT.out]
      rw [hlen] at c72
      clear hlen
      go_wp2
      go_ret
      exact ⟨ret_i (by omega), s.but, o', s.blocks (_, _) List.mem_cons_self, hi.out⟩
end Go.Proofs.YtdedfjkenbaebaaDoor

/- padding of package sha. -/
namespace Go.Proofs.YtdedfjkenbaebaaDoor
open Go.RowKit
set_option linter.unusedVariables false

/-- How many zero bytes follow. -/
def zerosOf (n : Nat) : Nat := (119 - n % 64) % 64
/-- The j lowest bytes of a number, the most significant one first. -/
def lowB (b : Nat) : Nat → List Int
  | 0 => []
  | j + 1 => ((b / 256 ^ j % 256 : Nat) : Int) :: lowB b j
theorem lowB_length (b j : Nat) : (lowB b j).length = j := by induction j with | zero => rfl | succ j ih => rw [lowB, List.length_cons, ih]
/-- The padding while it comes. -/
def padK (z b j : Nat) : List Int := 128 :: (List.replicate (z + 8 - j) 0 ++ lowB b j)
/-- What follows the bytes in a message. -/
def padL (n : Nat) : List Int := padK (zerosOf n) (n * 8) 8
theorem padK_length (z b : Nat) {j : Nat} (h : j ≤ z + 8) : (padK z b j).length = z + 9 := by
  unfold padK; rw [List.length_cons, List.length_append, List.length_replicate, lowB_length]; omega
theorem padK_set (z b : Nat) {j : Nat} (h : j < z + 8) : (padK z b j).set (z + 8 - j) ((b / 256 ^ j % 256 : Nat) : Int) = padK z b (j + 1) := by
  unfold padK
  obtain ⟨k, hk⟩ : ∃ k, z + 8 - j = k + 1 := ⟨z + 8 - j - 1, by omega⟩
  rw [hk, List.set_cons_succ, show z + 8 - (j + 1) = k by omega, List.replicate_succ', lowB]
  rw [List.append_assoc, List.set_append_right _ _ (by simp)]
  simp

set_option maxRecDepth 100000 in
set_option maxHeartbeats 4000000 in
theorem padding_any (n : Nat) (w : World) (hn : n < 2305843009213693952) :
    Calls Tryd.prog 92 #[.int .i64 n] w fun e w' => e = .returned (.slice (some ⟨w.heap.size, 0, none⟩) (zerosOf n + 9) (zerosOf n + 9)) ∧ Below w.heap.size w w' ∧ w'.heap[w.heap.size]? = some (.cells (byteA (padL n)) 5 (0, 0)) := by
  have hz : (119 - (n : Int) % 64) % 64 = (zerosOf n : Int) := by unfold zerosOf; omega
  have hz2 : zerosOf n < 64 := by unfold zerosOf; omega
  have hz3 : 0 ≤ (n : Int) % 64 := by omega
  have hz4 : (n : Int) % 64 < 64 := by omega
  unfold padL
  generalize zerosOf n = z at hz hz2 ⊢
  have hmk : ∀ w, (Instr.makeSlice 22 (.int .i64 (1 + (z : Int) + 8)) (.int .i64 (1 + (z : Int) + 8))).run Tryd.prog w = .ok (.slice (some ⟨w.heap.size, 0, none⟩) (z + 9) (z + 9)) (w.alloc (.cells (byteA (List.replicate (z + 9) 0)) 5)) := fun w => by
    have := make_bytes (z + 9) (by omega) w
    rw [show ((z + 9 : Nat) : Int) = 1 + (z : Int) + 8 by omega] at this
    exact this
  obtain ⟨A, hA⟩ : ∃ A, A = byteA (List.replicate (z + 9) 0) := ⟨_, rfl⟩
  rw [← hA] at hmk
  have hA0 : A[0]? = some (.int .u8 0) := by rw [hA, byteA_get _ (by simp)]; simp
  have HA : Hid (A.setIfInBounds 0 (.int .u8 128) = byteA (padK z (n * 8) 0)) := Lib.hid (by rw [hA, byteA_set]; unfold padK lowB; simp [List.replicate_succ])
  have hA1 : 0 < A.size := by rw [hA, byteA_size]; simp
  clear hA
  go_enter Tryd.func92, Tryd.ntmps92
  go_wp2
  rw [hz, HA.out]
  clear hz hmk hA0 HA hA1 A
  obtain ⟨s0, hs0⟩ : ∃ s0 : HeldW w [(w.heap.size, .cells (byteA (padK z (n * 8) 0)) 5 (0, 0))], w.alloc (.cells (byteA (padK z (n * 8) 0)) 5) = s0.w := ⟨(HeldW.start w).push _, rfl⟩
  rw [hs0]
  clear hs0
  go_loopw [5, 6] (fun q i wr => ∃ j : Nat, j ≤ 8 ∧ i = .int .i64 ((z : Int) + 8 - j) ∧ ∃ b : Nat, Hid (b = n * 8 / 256 ^ j) ∧ b < 18446744073709551616 ∧ q = .int .u64 b ∧ ∃ s : HeldW w [(w.heap.size, .cells (byteA (padK z (n * 8) j)) 5 (0, 0))], wr = s.w) (fun _ i _ => (intOf i).toNat - z)
  case atStart => exact ⟨0, by omega, congrArg (Value.int .i64) (by omega), n * 8, Lib.hid (by simp), by omega, congrArg (Value.int .u64) (by omega), s0, rfl⟩
  case round =>
    clear s0
    obtain ⟨j, hj, rfl, b, hb, hb2, rfl, s, rfl⟩ := hrel
    have hblk : s.w.heap[w.heap.size]? = some (.cells (byteA (padK z (n * 8) j)) 5 (0, 0)) := s.blocks (_, _) List.mem_cons_self
    by_cases hlt : j < 8
    · have hcell : s.w.cell? ⟨w.heap.size, z + 8 - j, none⟩ = some (.int .u8 ((padK z (n * 8) j)[z + 8 - j]?.getD 0)) := by
        rw [cell_of hblk, byteA_get _ (by rw [padK_length _ _ (by omega)]; omega)]
      have hfree := free_of hblk (z + 8 - j)
      have HK : (byteA (padK z (n * 8) j)).setIfInBounds (z + 8 - j) (.int .u8 ((b : Int) % 256)) = byteA (padK z (n * 8) (j + 1)) := by
        rw [show ((b : Int) % 256) = ((n * 8 / 256 ^ j % 256 : Nat) : Int) by rw [← hb.out]; omega, byteA_set, padK_set z _ (by omega)]
      have HKH := Lib.hid HK
      have hidx : ((z : Int) + 8 - j).toNat = z + 8 - j := by omega
      have hi0 : 0 ≤ (z : Int) + 8 - j := by omega
      have hi1 : (z : Int) + 8 - j < z + 9 := by omega
      have hgt : (z : Int) < (z : Int) + 8 - j := by omega
      clear HK hblk
      go_wp2
      go_roundw
      case rel => exact ⟨j + 1, by omega, congrArg (Value.int .i64) (by omega), b / 256, Lib.hid (by rw [hb.out, Nat.div_div_eq_div_mul, Nat.pow_succ]), by omega, congrArg (Value.int .u64) (by omega), s.store (Nat.le_refl _) (by simp) HKH.out, rfl⟩
      case measure => simp only [intOf]; omega
    · obtain rfl : j = 8 := by omega
      have hle : ¬ (z : Int) < (z : Int) + 8 - ((8 : Nat) : Int) := by omega
      go_wp2
      go_ret
      exact ⟨rfl, s.below, hblk⟩
end Go.Proofs.YtdedfjkenbaebaaDoor
