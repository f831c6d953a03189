/- WireKeeps returns true for all bytes and numbers, and changes nothing that was there. -/
import Derived.Deep.RegionWith
import Derived.Test.Ytclalbiggnalfaa06Alive
namespace Go.Proofs.Ytclalbiggnalfaa
open Go.RowKit
set_option linter.unusedVariables false
set_option linter.unusedSimpArgs false

theorem keeps_big (l : List Int) (a : Option Addr) (cap : Nat) (n : Int) (w : World) (hl : l.length ≤ 9223372036854775807) (hbig : 300 < l.length) :
    Calls Try.prog 6 #[.slice a l.length cap, .int .u8 n] w (Gives (.bool true) w) := by
  have ha := alive06_gives
  have d1 : decide ((300 : Int) < l.length) = true := by simp; omega
  clear hbig
  go_enter Try.func6, Try.ntmps6
  go_wp2_with fail
  refine (HeldW.call (s := HeldW.start w) (ha _)).mono ?_
  rintro e _ ⟨rfl, s1, rfl⟩
  go_wp2
  go_ret
  exact ⟨rfl, s1.below⟩

/-- Bytes that lie still while another block changes. -/
theorem BytesIn.but {w w' : World} {h : Nat} {a : Option Addr} {l : List Int} {cap : Nat} (hb : BytesIn w a l cap) (hc : But h w.heap.size w w') (hne : 0 < l.length → ∀ b o, a = some ⟨b, o, none⟩ → b ≠ h) : BytesIn w' a l cap :=
  ⟨hb.len, hb.capb, fun hp => by
    obtain ⟨b, o, rfl, hcell⟩ := hb.cells hp
    refine ⟨b, o, rfl, fun i hi => ?_⟩
    rw [← hcell i hi]
    unfold World.cell?
    rw [hc.block b (World.block_lt_of_cell? w _ (hcell i hi)) (hne hp b o rfl)], hb.nil⟩

/-- The places of two readers of the bytes l, which lie at a. -/
structure Two where
  l : List Int
  a : Option Addr
  cap : Nat
  gr : Nat
  da : Option Addr
  dc : Nat
  gs : Nat
  ea : Option Addr
  ec : Nat
/-- Block h is none of theirs. -/
structure Two.Off (t : Two) (h : Nat) : Prop where
  r : h ≠ t.gr
  s : h ≠ t.gs
  d : 0 < t.l.length → ∀ b o, t.da = some ⟨b, o, none⟩ → b ≠ h
  e : 0 < t.l.length → ∀ b o, t.ea = some ⟨b, o, none⟩ → b ≠ h
  a : 0 < t.l.length → ∀ b o, t.a = some ⟨b, o, none⟩ → b ≠ h
/-- They are apart from each other. -/
structure Two.Ok (t : Two) (w : World) : Prop where
  r : w.heap.size ≤ t.gr
  s : w.heap.size ≤ t.gs
  rs : t.gr ≠ t.gs
  dr : 0 < t.l.length → ∀ b o, t.da = some ⟨b, o, none⟩ → b ≠ t.gr ∧ b ≠ t.gs
  er : 0 < t.l.length → ∀ b o, t.ea = some ⟨b, o, none⟩ → b ≠ t.gr ∧ b ≠ t.gs
  ar : 0 < t.l.length → ∀ b o, t.a = some ⟨b, o, none⟩ → b ≠ t.gr ∧ b ≠ t.gs
/-- They have read n and m bytes. -/
structure Two.At (t : Two) (w : World) (n m : Nat) (W : World) : Prop where
  below : Below w.heap.size w W
  r : W.heap[t.gr]? = some (rdO n t.l.length t.da t.dc 0 0)
  s : W.heap[t.gs]? = some (rdO m t.l.length t.ea t.ec 0 0)
  d : BytesIn W t.da t.l t.dc
  e : BytesIn W t.ea t.l t.ec
  b : BytesIn W t.a t.l t.cap
section
variable {t : Two} {w W W' : World} {n m : Nat}
theorem Two.At.later (h : t.At w n m W) (hb : Below W.heap.size W W') : t.At w n m W' := ⟨h.below.trans (hb.mono h.below.size), heap_below h.r hb, heap_below h.s hb, h.d.below hb, h.e.below hb, h.b.below hb⟩
theorem Two.At.but (h : t.At w n m W) {k : Nat} (hk : w.heap.size ≤ k) (ho : t.Off k) (hb : But k W.heap.size W W') : t.At w n m W' :=
  ⟨h.below.trans ((hb.mono h.below.size).below hk), (hb.block _ (Array.getElem?_eq_some_iff.1 h.r).1 ho.r.symm).trans h.r, (hb.block _ (Array.getElem?_eq_some_iff.1 h.s).1 ho.s.symm).trans h.s,
    h.d.but hb ho.d, h.e.but hb ho.e, h.b.but hb ho.a⟩
theorem Two.At.readr (h : t.At w n m W) (ok : t.Ok w) {n' : Nat} (hb : But t.gr W.heap.size W W') (ho : W'.heap[t.gr]? = some (rdO n' t.l.length t.da t.dc 0 0)) : t.At w n' m W' :=
  ⟨h.below.trans ((hb.mono h.below.size).below ok.r), ho, (hb.block _ (Array.getElem?_eq_some_iff.1 h.s).1 ok.rs.symm).trans h.s, h.d.but hb (fun hp b o e => (ok.dr hp b o e).1), h.e.but hb (fun hp b o e => (ok.er hp b o e).1), h.b.but hb (fun hp b o e => (ok.ar hp b o e).1)⟩
theorem Two.At.reads (h : t.At w n m W) (ok : t.Ok w) {m' : Nat} (hb : But t.gs W.heap.size W W') (ho : W'.heap[t.gs]? = some (rdO m' t.l.length t.ea t.ec 0 0)) : t.At w n m' W' :=
  ⟨h.below.trans ((hb.mono h.below.size).below ok.s), (hb.block _ (Array.getElem?_eq_some_iff.1 h.r).1 ok.rs).trans h.r, ho, h.d.but hb (fun hp b o e => (ok.dr hp b o e).2), h.e.but hb (fun hp b o e => (ok.er hp b o e).2), h.b.but hb (fun hp b o e => (ok.ar hp b o e).2)⟩
end

/-- Bytes in a row. -/
theorem row_bytes {w : World} {base N : Nat} {v : Value} {l : List Int} (h : w.ownsRow base 5 1 v l.length (l.map (Value.int .u8))) (hN : N = l.length) : ∃ (a : Option Addr) (cap : Nat), v = .slice a N cap ∧ BytesIn w a l cap ∧ (0 < N → ∃ g cur, a = some ⟨g, 0, none⟩ ∧ base ≤ g ∧ w.heap[g]? = some (.cells cur 5 (0, 0)) ∧ ∀ j, j < N → ∃ x : Int, cur[j]? = some (.int .u8 x)) := by
  subst hN
  rcases h.2 with ⟨h1, h0⟩ | ⟨g, cap, cur, hv, hg, hb, hc, hm, _, ht⟩
  · obtain rfl := List.eq_nil_of_length_eq_zero h0
    exact ⟨none, 0, h1, ⟨by simp, by omega, fun h => absurd h (by simp), fun _ => rfl⟩, fun h => absurd h (by simp)⟩
  · subst hv
    have get : ∀ i, i < l.length → w.cell? ⟨g, i, none⟩ = some (.int .u8 (l[i]?.getD 0)) := fun i hi => by
      have hown := World.ownsRow.cells h (g := g) rfl i (.int .u8 (l[i]?.getD 0)) (by rw [List.getElem?_map, List.getElem?_eq_getElem hi]; rfl)
      rwa [Addr.add_mid, Nat.zero_add] at hown
    refine ⟨_, cap, rfl, ⟨hc, by unfold maxLen at hm; omega, fun hp => ⟨g, 0, rfl, fun i hi => by rw [Nat.zero_add]; exact get i hi⟩, fun h => by cases h⟩, fun hp => ⟨g, cur, rfl, hg, hb, fun j hj => ⟨_, by have := get j hj; rwa [cell_of hb] at this⟩⟩⟩

/-- The row that is written: it holds bytes. -/
def RowAt (g M : Nat) (W : World) : Prop := 0 < M → ∃ cur : Array Value, W.heap[g]? = some (.cells cur 5 (0, 0)) ∧ ∀ j, j < M → ∃ x : Int, cur[j]? = some (.int .u8 x)
theorem RowAt.get {g M : Nat} {W : World} (h : RowAt g M W) {j : Nat} (hj : j < M) : ∃ x : Int, W.cell? ⟨g, j, none⟩ = some (.int .u8 x) ∧ W.frozen? ⟨g, j, none⟩ = false ∧ ∀ y : Int, RowAt g M (W.setCell ⟨g, j, none⟩ (.int .u8 y)) := by
  obtain ⟨cur, hb, hc⟩ := h (by omega)
  obtain ⟨x, hx⟩ := hc j hj
  refine ⟨x, by rw [cell_of hb, hx], free_of hb j, fun y _ => ⟨_, heap_setCell_same _ _ _ _ _ _ hb, fun i hi => ?_⟩⟩
  obtain ⟨z, hz⟩ := hc i hi
  by_cases hij : j = i
  · subst hij
    exact ⟨y, by rw [Array.getElem?_setIfInBounds, if_pos rfl, if_pos (Array.getElem?_eq_some_iff.1 hz).1]⟩
  · exact ⟨z, by rw [Array.getElem?_setIfInBounds, if_neg hij]; exact hz⟩

/-- A number that is no block of theirs. -/
theorem Two.far (t : Two) (B : Nat) (h0 : t.l.length = 0) : ∃ k, B ≤ k ∧ t.Off k :=
  ⟨B + t.gr + t.gs + 1, by omega, by omega, by omega, fun hp => by omega, fun hp => by omega, fun hp => by omega⟩
/-- A block that is new, or no block at all. -/
theorem Two.At.off {t : Two} {w W : World} {n m : Nat} (h : t.At w n m W) {g : Nat} (hg : W.heap.size ≤ g) (hp : 0 < t.l.length) : t.Off g := by
  have hr := (Array.getElem?_eq_some_iff.1 h.r).1
  have hs := (Array.getElem?_eq_some_iff.1 h.s).1
  have key : ∀ {x : Option Addr} {c : Nat}, BytesIn W x t.l c → ∀ b o, x = some ⟨b, o, none⟩ → b ≠ g := fun hb b o e => by
    obtain ⟨b', o', e', hc⟩ := hb.cells hp
    rw [e] at e'
    cases e'
    have := World.block_lt_of_cell? _ _ (hc 0 hp)
    simp only at this
    omega
  exact ⟨by omega, by omega, fun _ => key h.d, fun _ => key h.e, fun _ => key h.b⟩

/-- The bytes from n on. -/
def slA (a : Option Addr) (cap n : Nat) : Option Addr := if cap = n then a else a.map (·.add (n * 1))
theorem cut_l {a : Option Addr} {L cap : Nat} (n : Nat) (hn : n ≤ L) (hc : L ≤ cap) (W : World) : (Instr.slice 22 (.slice a L cap) (some (.int .i64 (n : Int))) none none).run Try.prog W = .ok (.slice (slA a cap n) (L - n) (cap - n)) W := by
  rw [run_slice_l (P := Try.prog) W 22 a L cap (by kernel_rfl) .i64 (n : Int) (by omega) (by omega), size_u8]
  simp only [Result.andThen_ok, sliced, Int.toNat_natCast, slA]
theorem BytesIn.from {w : World} {a : Option Addr} {l : List Int} {cap : Nat} (h : BytesIn w a l cap) (n : Nat) (hn : n ≤ l.length) : BytesIn w (slA a cap n) (l.drop n) (cap - n) := by
  have hl := h.len
  refine ⟨by rw [List.length_drop]; omega, by have := h.capb; omega, fun hp => ?_, fun h0 => ?_⟩
  · rw [List.length_drop] at hp
    obtain ⟨b, o, rfl, hc⟩ := h.cells (by omega)
    refine ⟨b, o + n, ?_, fun i hi => ?_⟩
    · unfold slA
      rw [if_neg (by omega)]
      simp [Addr.add_mid]
    · rw [List.length_drop] at hi
      rw [Nat.add_assoc, hc (n + i) (by omega), List.getElem?_drop]
  · unfold slA at h0
    by_cases hc : cap = n
    · omega
    · rw [if_neg hc] at h0
      cases a with
      | none => have := h.nil rfl; omega
      | some ad => cases h0

set_option maxRecDepth 100000 in
set_option maxHeartbeats 8000000 in
theorem keeps_small (l : List Int) (a : Option Addr) (cap : Nat) (n : Int) (w : World) (hb : BytesIn w a l cap) (hn : 0 ≤ n ∧ n < 256) (h1 : l.length ≤ 300) :
    Calls Try.prog 6 #[.slice a l.length cap, .int .u8 n] w (Gives (.bool true) w) := by
  obtain ⟨E⟩ := elem_of (P := Try.prog) (t := 22) (e := 5) (z := .int .u8 0) (n := 1) Try.underlying22 (by kernel_rfl) rfl (by omega)
  obtain ⟨so, hso⟩ := own_empty w
  have HSO := Lib.hid hso
  have HSRC := Lib.hid (hb.below so.below).news
  have HB := Lib.hid hb
  obtain ⟨M, hM⟩ : ∃ M, M = l.length := ⟨_, rfl⟩
  rw [← hM] at h1 ⊢
  have HM := Lib.hid hM
  have d1 : decide ((300 : Int) < M) = false := by simp; omega
  have HML := Lib.hid (show M = (l.map (Value.int .u8)).length by rw [List.length_map]; exact hM)
  have HNI := Lib.hid (hb.nil2 (n := M) hM)
  clear hso hb hM
  go_enter Try.func6, Try.ntmps6
  go_wp2_with (rw [HSO.out]; refine wpList_append_src E so (l.map (Value.int .u8)) (.tmp 18) (.tmp 19) rfl rfl rfl a M cap HML.out rfl HNI.out HSRC.out (one_bytes _) (by rw [List.length_nil, ← HML.out]; omega) ?_; intro v1 s1)
  obtain ⟨s1', hs1⟩ : ∃ s' : OwnW w 5 v1 (l.map (Value.int .u8)), s1.w = s'.w := ⟨s1.as (by simp), rfl⟩
  rw [hs1]
  clear hs1 s1
  obtain ⟨A1, C1, rfl, hb1, hrow⟩ := row_bytes (by have := s1'.own; rwa [List.length_map] at this) HM.out
  have hn1 := wnew_any l A1 C1 s1'.w hb1 (by have := HM.out; omega)
  rw [← HM.out] at hn1
  have HROW := Lib.hid hrow
  clear hb1 hrow so HSO HSRC
  refine hn1.mono ?_
  rintro e W2 ⟨gr, da, dc, rfl, hgr, hb2, hr2, hd2, hne2⟩
  clear hn1
  have B2 : Below w.heap.size w W2 := s1'.below.trans (hb2.mono s1'.below.size)
  have hn2 := wnew_any l a cap W2 (HB.out.below B2) (by have := HM.out; omega)
  rw [← HM.out] at hn2
  go_wp2_with fail
  refine hn2.mono ?_
  rintro e W3 ⟨gs, ea, ec, rfl, hgs, hb3, hr3, hd3, hne3⟩
  clear hn2
  obtain ⟨t, ht⟩ : ∃ t : Two, t = ⟨l, a, cap, gr, da, dc, gs, ea, ec⟩ := ⟨_, rfl⟩
  have hrl := (Array.getElem?_eq_some_iff.1 hr2).1
  have hsz2 := s1'.below.size
  have hsz3 := hb2.size
  have hM := HM.out
  have HT := Lib.hid ht
  have OK : Hid (t.Ok w) := Lib.hid (by
    subst ht
    refine ⟨by simp only; omega, by simp only; omega, by simp only; omega, fun hp b o e => ?_, fun hp b o e => ?_, fun hp b o e => ?_⟩
    · have := hne2 b o e
      obtain ⟨b', o', e', hc⟩ := hd2.cells hp
      simp only at e
      rw [e] at e'
      cases e'
      have h3 := World.block_lt_of_cell? _ _ (hc 0 hp)
      simp only at h3
      exact ⟨this.2, by simp only; omega⟩
    · have := hne3 b o e
      exact ⟨by simp only; omega, this.2⟩
    · simp only at hp e
      subst e
      obtain ⟨b', o', e', hc⟩ := HB.out.cells hp
      cases e'
      have := World.block_lt_of_cell? _ _ (hc 0 hp)
      simp only at this
      exact ⟨by simp only; omega, by simp only; omega⟩)
  have AT0 : Hid (t.At w 0 0 W3) := Lib.hid (by
    subst ht
    exact ⟨B2.trans (hb3.mono B2.size), heap_below hr2 hb3, hr3, hd2.below hb3, hd3, (HB.out.below B2).below hb3⟩)
  obtain ⟨go, hgo, hoff, hA, hrow3⟩ : ∃ go, w.heap.size ≤ go ∧ t.Off go ∧ (0 < M → A1 = some ⟨go, 0, none⟩) ∧ RowAt go M W3 := by
    by_cases hp : 0 < M
    · obtain ⟨g, cur, e, hg, hblk, hc⟩ := HROW.out hp
      have hlt := (Array.getElem?_eq_some_iff.1 hblk).1
      refine ⟨g, hg, ?_, fun _ => e, fun _ => ⟨cur, heap_below (heap_below hblk hb2) hb3, hc⟩⟩
      subst ht
      refine ⟨by simp only; omega, by simp only; omega, fun _ b o e => ?_, fun _ b o e => ?_, fun hp b o e => ?_⟩
      · have := hne2 b o e; omega
      · have := hne3 b o e; omega
      · simp only at hp e
        subst e
        obtain ⟨b', o', e', hc⟩ := HB.out.cells hp
        cases e'
        have := World.block_lt_of_cell? _ _ (hc 0 hp)
        simp only at this
        omega
    · obtain ⟨k, hk, ho⟩ := t.far w.heap.size (by rw [ht]; simp only; omega)
      exact ⟨k, hk, ho, fun h => absurd h hp, fun h => absurd h hp⟩
  have HA := Lib.hid hA
  have HOFF := Lib.hid hoff
  have HR3 := Lib.hid hrow3
  clear ht hb2 hr2 hd2 hne2 hb3 hr3 hd3 hne3 hgr hgs hrl hsz2 hsz3 B2 hA hoff hrow3 HROW hM
  go_wp2
  go_loopw [8, 33] (fun _ i wr => ∃ k : Nat, k ≤ M ∧ i = .int .i64 k ∧ Hid (But go W3.heap.size W3 wr ∧ RowAt go M wr)) (fun _ i _ => M - (intOf i).toNat)
  case atStart => exact ⟨0, by omega, rfl, Lib.hid ⟨But.refl _ _ _, HR3.out⟩⟩
  case round =>
    clear HR3
    obtain ⟨k, hk, rfl, hB⟩ := hrel
    by_cases hlt : k < M
    · obtain rfl := HA.out (by omega)
      obtain ⟨x, c1, f1, hset⟩ := hB.out.2.get hlt
      have HSET := Lib.hid hset
      clear hset
      go_wp2
      go_roundw
      case rel => exact ⟨k + 1, by omega, by go_num, Lib.hid ⟨hB.out.1.store k _, HSET.out _⟩⟩
      case measure => simp [intOf]; omega
    · obtain rfl : M = k := by omega
      have AT1 := Lib.hid (AT0.out.but hgo HOFF.out hB.out.1)
      clear hB AT0 HOFF HA hgo
      have ht := HT.out
      subst ht
      have hm0 : 0 ≤ n % ((M : Int) + 1) := Int.emod_nonneg _ (by omega)
      have hm1 : n % ((M : Int) + 1) < (M : Int) + 1 := Int.emod_lt_of_pos _ (by omega)
      obtain ⟨K, hK⟩ : ∃ K : Nat, n % ((M : Int) + 1) = K := ⟨(n % ((M : Int) + 1)).toNat, by omega⟩
      have hKM : K ≤ M := by omega
      have hbo := bytes_ok gr 0 dc da wr l 0 K AT1.out.r (by have := HM.out; omega) AT1.out.d (by omega)
      rw [List.drop_zero, Nat.zero_add] at hbo
      obtain ⟨P, hP⟩ : ∃ P, P = l.take K := ⟨_, rfl⟩
      rw [← hP] at hbo
      have hPl : K = P.length := by rw [hP, List.length_take, ← HM.out]; omega
      have HP := Lib.hid hP
      have HPL := Lib.hid hPl
      clear hP hPl hm0 hm1
      go_wp2_with fail
      refine hbo.mono ?_
      rintro e W5 ⟨v5, rfl, hb5, ho5, hr5⟩
      obtain ⟨A5, C5, rfl, hx5, hrow5⟩ := row_bytes hr5 HPL.out
      have AT2 := Lib.hid (AT1.out.readr OK.out hb5 ho5)
      obtain ⟨AK, hslK, hbK⟩ := cutb_h AT2.out.b K (by simp only; rw [← HM.out]; exact hKM)
      simp only at hslK hbK
      rw [← HM.out] at hslK
      rw [← HP.out] at hbK
      have heq := eq8_yes P P rfl A5 AK C5 cap W5 hx5 hbK
      rw [← HPL.out] at heq
      have HROW5 := Lib.hid hrow5
      clear hbo hb5 ho5 hr5 hx5 hbK hrow5 hK
      go_wp2_with fail
      refine heq.mono ?_
      rintro e W6 ⟨rfl, hb6⟩
      have AT3 := Lib.hid (AT2.out.later hb6)
      obtain ⟨gx, hgx, hoff, hA, hrow6⟩ : ∃ gx, w.heap.size ≤ gx ∧ Two.Off ⟨l, a, cap, gr, da, dc, gs, ea, ec⟩ gx ∧ (0 < K → A5 = some ⟨gx, 0, none⟩) ∧ RowAt gx K W6 := by
        by_cases hp : 0 < K
        · obtain ⟨g, cur, e, hg, hblk, hc⟩ := HROW5.out hp
          exact ⟨g, Nat.le_trans AT1.out.below.size hg, AT1.out.off hg (by simp only; rw [← HM.out]; omega), fun _ => e, fun _ => ⟨cur, heap_below hblk hb6, hc⟩⟩
        · obtain ⟨k, hk, ho⟩ : ∃ k, w.heap.size ≤ k ∧ Two.Off ⟨l, a, cap, gr, da, dc, gs, ea, ec⟩ k := by
            by_cases hz : 0 < l.length
            · exact ⟨W6.heap.size, AT3.out.below.size, AT3.out.off (Nat.le_refl _) hz⟩
            · exact Two.far _ w.heap.size (by simp only; omega)
          exact ⟨k, hk, ho, fun h => absurd h hp, fun h => absurd h hp⟩
      have HA := Lib.hid hA
      have HOFF := Lib.hid hoff
      have HR6 := Lib.hid hrow6
      clear heq hb6 hA hoff hrow6 HROW5 AT1 AT2 hslK
      go_wp2
      go_loopw [12, 59] (fun _ i wr => ∃ k : Nat, k ≤ K ∧ i = .int .i64 k ∧ Hid (But gx W6.heap.size W6 wr ∧ RowAt gx K wr)) (fun _ i _ => K - (intOf i).toNat)
      case atStart => exact ⟨0, by omega, rfl, Lib.hid ⟨But.refl _ _ _, HR6.out⟩⟩
      case round =>
        clear HR6
        obtain ⟨k, hk, rfl, hB⟩ := hrel
        by_cases hlt : k < K
        · obtain rfl := HA.out (by omega)
          obtain ⟨x, c1, f1, hset⟩ := hB.out.2.get hlt
          have HSET := Lib.hid hset
          clear hset
          go_wp2
          go_roundw
          case rel => exact ⟨k + 1, by omega, by go_num, Lib.hid ⟨hB.out.1.store k _, HSET.out _⟩⟩
          case measure => simp [intOf]; omega
        · obtain rfl : K = k := by omega
          have AT4 := Lib.hid (AT3.out.but hgx HOFF.out hB.out.1)
          clear hB AT3 HOFF HA hgx
          go_wp2_with fail
          have hsl := cut_l (a := a) (L := M) (cap := cap) K hKM (by have := AT4.out.b.len; simp only at this; rw [HM.out]; exact this)
          have hMK : ((M - K : Nat) : Int) = (M : Int) - (K : Int) := by omega
          have AT5 := Lib.hid (AT4.out.later (Below.refl _ wr).drew)
          have c1 := bytes_ok gs 0 ec ea wr.drew l 0 M AT5.out.s (by have := HM.out; omega) AT5.out.e (by omega)
          rw [List.drop_zero, Nat.zero_add, List.take_of_length_le (by rw [← HM.out]; exact Nat.le_refl _)] at c1
          have HC1 := Lib.hid c1
          have HMK := Lib.hid hMK
          have EQ1 := Lib.hid (fun (W : World) (A : Option Addr) (C : Nat) (hA : BytesIn W A l C) (hB : BytesIn W a l cap) => by
            have := eq8_yes l l rfl A a C cap W hA hB
            rw [← HM.out] at this
            exact this)
          have RE := Lib.hid (fun (W : World) (h : W.heap[gr]? = some (rdO K l.length da dc 0 0)) => by
            have := rest_any gr K l.length dc da 0 0 W h (by rw [← HM.out]; exact hKM) (by rw [← HM.out]; omega)
            rw [← HM.out] at this
            exact this)
          have BY := Lib.hid (fun (W : World) (h : W.heap[gr]? = some (rdO K l.length da dc 0 0)) (hd : BytesIn W da l dc) => by
            have := bytes_ok gr K dc da W l 0 (M - K) h (by rw [← HM.out]; omega) hd (by omega)
            rw [HMK.out, List.take_of_length_le (by rw [List.length_drop, ← HM.out]; exact Nat.le_refl _)] at this
            exact this)
          have HDL := Lib.hid (show M - K = (l.drop K).length by rw [List.length_drop, ← HM.out])
          have EQ2 := Lib.hid (fun (W : World) (A : Option Addr) (C : Nat) (hA : BytesIn W A (l.drop K) C) (hB : BytesIn W a l cap) => by
            have := eq8_yes (l.drop K) (l.drop K) rfl A (slA a cap K) C (cap - K) W hA (hB.from K (by rw [← HM.out]; exact hKM))
            rw [← HDL.out] at this
            exact this)
          clear c1 hMK AT4
          go_region_with (first
            | (go_at_call_of 19 gs; refine HC1.out.mono ?_; rintro e W8 ⟨v8, rfl, hb8, ho8, hr8⟩; obtain ⟨A8, C8, rfl, hx8, -⟩ := row_bytes hr8 HM.out; have AT6 := Lib.hid (AT5.out.reads OK.out hb8 ho8); have HE8 := Lib.hid (EQ1.out W8 A8 C8 hx8 AT6.out.b); clear hb8 ho8 hr8 hx8)
            | (go_at_call_of 10 A8; refine HE8.out.mono ?_; rintro e W9 ⟨rfl, hb9⟩; have AT7 := Lib.hid (AT6.out.later hb9); clear hb9)
            | (go_at_call 13; refine (RE.out W9 AT7.out.r).mono ?_; rintro e W10 ⟨rfl, hb10⟩; have AT8 := Lib.hid (AT7.out.later hb10); clear hb10)
            | (go_at_call_of 19 gr; refine (BY.out W10 AT8.out.r AT8.out.d).mono ?_; rintro e W11 ⟨v11, rfl, hb11, ho11, hr11⟩; obtain ⟨A11, C11, rfl, hx11, -⟩ := row_bytes hr11 HDL.out; have AT9 := Lib.hid (AT8.out.readr OK.out hb11 ho11); have HE11 := Lib.hid (EQ2.out W11 A11 C11 hx11 AT9.out.b); clear hb11 ho11 hr11 hx11)
            | (go_at_call_of 10 A11; refine HE11.out.mono ?_; rintro e W12 ⟨rfl, hb12⟩; have AT10 := Lib.hid (AT9.out.later hb12); clear hb12))
          all_goals (
            clear hsl EQ1 EQ2 RE BY HC1 AT5 AT6 AT7 AT8 AT9 HE8 HE11
            have HS10 := Lib.hid AT10.out.below
            clear AT10
            go_wp2_with fail
            refine (HeldW.call (s := (⟨W12, HS10.out, by simp⟩ : HeldW w [])) (fail_nil 9 3 W12)).mono ?_
            rintro e _ ⟨rfl, q1, rfl⟩
            go_wp2_with fail
            refine (HeldW.call (s := q1) (alive06_gives _)).mono ?_
            rintro e _ ⟨rfl, q2, rfl⟩
            go_wp2_with fail
            refine (HeldW.call (s := q2) (uint_nil 1 _)).mono ?_
            rintro e _ ⟨rfl, q3, rfl⟩
            go_wp2_with fail
            refine (HeldW.call (s := q3) (length_nil _)).mono ?_
            rintro e _ ⟨rfl, q4, rfl⟩
            go_wp2_with fail
            refine (HeldW.call (s := q4) (bytes_nil 1 _)).mono ?_
            rintro e _ ⟨rfl, q5, rfl⟩
            go_wp2_with fail
            refine (HeldW.call (s := q5) (expect_nil _ 9 _)).mono ?_
            rintro e _ ⟨rfl, q6, rfl⟩
            go_wp2_with fail
            refine (HeldW.call (s := q6) (gives_same (at_nil _))).mono ?_
            rintro e _ ⟨rfl, q7, rfl⟩
            go_wp2_with fail
            refine (HeldW.call (s := q7) (gives_same (rest_nil _))).mono ?_
            rintro e _ ⟨rfl, q8, rfl⟩
            go_wp2_with fail
            refine (HeldW.call (s := q8) (fault_nil _)).mono ?_
            rintro e _ ⟨rfl, q9, rfl⟩
            go_wp2
            go_ret
            exact ⟨rfl, q9.below⟩)

theorem wireKeeps_walk (a : Option Addr) (l : List Int) (cap : Nat) (n : Int) (w : World) (hb : BytesIn w a l cap) (hn : 0 ≤ n ∧ n ≤ 255) :
    Calls Try.prog 6 #[.slice a l.length cap, .int .u8 n] w (Gives (.bool true) w) := by
  by_cases h : l.length ≤ 300
  · exact keeps_small l a cap n w hb (by omega) h
  · have h1 := hb.len
    have h2 := hb.capb
    exact keeps_big l a cap n w (by omega) (by omega)
end Go.Proofs.Ytclalbiggnalfaa
