/- Slices of calls that came in, opened; an array of two bytes. -/
import Derived.ProofKit
import Derived.OpenShut
import Derived.ChangeOld
import Derived.Deep.Slices
import Derived.Deep.Strs
import Derived.Lib.SmallJoins
import Derived.Test.Ytclalbiggnalfaa00Open
import Derived.Test.Ytclalbiggnalfaa06Alive
namespace Go.Proofs.Ytclalbiggnalfaa
open Go.ChangeShapes Go.WideShapes Go.RowKit Go.Deep Go.Joins
set_option linter.unusedVariables false

/-- A call: its kind, a number, bytes and their place. -/
structure Op6 where
  k : Int
  n : Int
  l : List Int
  a : Option Addr
  cap : Nat
/-- A slice of calls that came in. -/
structure OpsIn (w : World) (oa : Option Addr) (os : List Op6) (ocap : Nat) : Prop where
  len : os.length ≤ ocap
  capb : ocap ≤ 9223372036854775807
  cells : 0 < os.length → ∃ b o, oa = some ⟨b, o, none⟩ ∧ ∀ (i : Nat) (c : Op6), os[i]? = some c → w.cell? ⟨b, o + i * 3, none⟩ = some (.int .i64 c.k) ∧ w.cell? ⟨b, o + i * 3 + 1, none⟩ = some (.int .i64 c.n) ∧ w.cell? ⟨b, o + i * 3 + 2, none⟩ = some (.slice c.a c.l.length c.cap)
  ok : ∀ c ∈ os, (-9223372036854775808 ≤ c.k ∧ c.k ≤ 9223372036854775807) ∧ (-9223372036854775808 ≤ c.n ∧ c.n ≤ 9223372036854775807) ∧ BytesIn w c.a c.l c.cap
theorem OpsIn.below {w w' : World} {a : Option Addr} {os : List Op6} {cap : Nat} (h : OpsIn w a os cap) (hb : Below w.heap.size w w') : OpsIn w' a os cap :=
  ⟨h.len, h.capb, fun hp => by
    obtain ⟨b, o, rfl, hc⟩ := h.cells hp
    exact ⟨b, o, rfl, fun i f hi => ⟨(hb.cell (p := ⟨b, o + i * 3, none⟩) (World.block_lt_of_cell? _ _ (hc i f hi).1)).trans (hc i f hi).1, (hb.cell (p := ⟨b, o + i * 3 + 1, none⟩) (World.block_lt_of_cell? _ _ (hc i f hi).2.1)).trans (hc i f hi).2.1, (hb.cell (p := ⟨b, o + i * 3 + 2, none⟩) (World.block_lt_of_cell? _ _ (hc i f hi).2.2)).trans (hc i f hi).2.2⟩⟩,
    fun c hc => ⟨(h.ok c hc).1, (h.ok c hc).2.1, (h.ok c hc).2.2.below hb⟩⟩
theorem OpsIn.at {w : World} {a : Option Addr} {os : List Op6} {cap : Nat} (h : OpsIn w a os cap) {i : Nat} {c : Op6} (hi : os[i]? = some c) : ∃ b o, a = some ⟨b, o, none⟩ ∧ w.cell? ⟨b, o + i * 3, none⟩ = some (.int .i64 c.k) ∧ w.cell? ⟨b, o + i * 3 + 1, none⟩ = some (.int .i64 c.n) ∧ w.cell? ⟨b, o + i * 3 + 2, none⟩ = some (.slice c.a c.l.length c.cap) := by
  obtain ⟨b, o, ha, hc⟩ := h.cells (by have := (List.getElem?_eq_some_iff.1 hi).1; omega)
  exact ⟨b, o, ha, hc i c hi⟩

theorem open_ops {H : Type} {enc : TypeId × Value → H} {w : World} {base : Nat} {held : Bool} {t e : TypeId} {f0 f1 f2 : Field} {a : Option Addr} {len cap : Nat} {d : DataW H} {p : List MemPlace}
    (ht : Try.prog.underlying t = some (.slice e)) (he : Try.prog.underlying e = some (.struct #[f0, f1, f2])) (ho : f0.offset = 0 ∧ f1.offset = 1 ∧ f2.offset = 2 ∧ Try.prog.cellsOf f0.type = 1 ∧ Try.prog.cellsOf f1.type = 1 ∧ Try.prog.cellsOf f2.type = 1 ∧ Try.prog.cellsOf e = 3)
    (h0 : Try.prog.underlying f0.type = some (.int .i64)) (h1 : Try.prog.underlying f1.type = some (.int .i64)) (h2 : f2.type = 22)
    (h : DataW.Trod enc Try.prog w base (fun _ => true) held t (.slice a len cap) d p) : ∃ os : List Op6, os.length = len ∧ OpsIn w a os cap := by
  obtain ⟨o0, o1, o2, c0, c1, c2, ce⟩ := ho
  obtain ⟨fuel, hf⟩ := h
  rcases open_slice ht hf with ⟨hcs, _⟩ | ⟨ad, len', cap', m, n, D, Pl, hcs, _, hl, hm, hmm, _, hi⟩
  · simp [Value.cells] at hcs
    obtain ⟨rfl, rfl, rfl⟩ := hcs
    exact ⟨[], rfl, by simp, by omega, fun h => absurd h (by simp), fun f hf => by simp at hf⟩
  · simp [Value.cells] at hcs
    obtain ⟨rfl, rfl, rfl⟩ := hcs
    simp at hmm
    subst hmm
    have hex : ∀ i, i < len → ∃ x : Op6, (w.cell? (ad.add (i * 3)) = some (.int .i64 x.k) ∧ w.cell? (ad.add (i * 3 + 1)) = some (.int .i64 x.n) ∧ w.cell? (ad.add (i * 3 + 2)) = some (.slice x.a x.l.length x.cap)) ∧
        (-9223372036854775808 ≤ x.k ∧ x.k ≤ 9223372036854775807) ∧ (-9223372036854775808 ≤ x.n ∧ x.n ≤ 9223372036854775807) ∧ BytesIn w x.a x.l x.cap := fun i hlt => by
      obtain ⟨cs', h1', h2'⟩ := hi i (by omega)
      rw [ce] at h1'
      obtain ⟨_, hlen, hat⟩ := World.cells?_some h1'
      obtain ⟨y0, y1, y2, n', _, _, t0, t1, t2⟩ := trod_struct3 he h2'
      rw [o0, c0] at t0
      rw [o1, c1] at t1
      rw [o2, c2, h2] at t2
      match cs', hlen with
      | [u0, u1, u2], _ =>
        obtain ⟨b0, e0, _, w0⟩ := DataW.trod_int h0 t0
        obtain ⟨b1, e1, _, w1⟩ := DataW.trod_int h1 t1
        simp only [List.drop_succ_cons, List.drop_zero, List.take_succ_cons, List.take_zero] at t2
        obtain ⟨sa, sl, sc, e2⟩ := slice_form Try.underlying22 t2
        simp at e0 e1 e2
        subst e0 e1 e2
        have h4 : DataW.Trod enc Try.prog w base (fun _ => true) held 22 (.slice sa sl sc) y2.1 y2.2 := ⟨n', by simpa [Value.cells] using t2⟩
        obtain ⟨l, rfl, hb⟩ := open_bytes h4
        have a0 := hat 0 (by omega)
        have a1 := hat 1 (by omega)
        have a2 := hat 2 (by omega)
        rw [add_add] at a0 a1 a2
        exact ⟨⟨b0, b1, l, sa, sc⟩, ⟨by simpa using a0, by simpa using a1, by simpa using a2⟩, bounds_i64 w0, bounds_i64 w1, hb⟩
    have hinh : Nonempty Op6 := ⟨⟨0, 0, [], none, 0⟩⟩
    obtain ⟨g, hg⟩ : ∃ g : Nat → Op6, ∀ i, i < len → (w.cell? (ad.add (i * 3)) = some (.int .i64 (g i).k) ∧ w.cell? (ad.add (i * 3 + 1)) = some (.int .i64 (g i).n) ∧ w.cell? (ad.add (i * 3 + 2)) = some (.slice (g i).a (g i).l.length (g i).cap)) ∧
        (-9223372036854775808 ≤ (g i).k ∧ (g i).k ≤ 9223372036854775807) ∧ (-9223372036854775808 ≤ (g i).n ∧ (g i).n ≤ 9223372036854775807) ∧ BytesIn w (g i).a (g i).l (g i).cap :=
      ⟨fun i => if h : i < len then Classical.choose (hex i h) else Classical.choice hinh, fun i hi => by simp only [hi, dif_pos]; exact Classical.choose_spec (hex i hi)⟩
    refine ⟨(List.range len).map g, by simp, by simp; exact hl, by unfold maxLen at hm; omega, fun hp => ?_, fun x hx => ?_⟩
    · have hp' : 0 < len := by simpa using hp
      obtain ⟨b, o, s⟩ := ad
      have hsp : s = none := by simpa [Addr.add] using World.cell?_spot (hg 0 hp').1.1
      subst hsp
      refine ⟨b, o, rfl, fun i x hx => ?_⟩
      have hil : i < len := by have := (List.getElem?_eq_some_iff.1 hx).1; simpa using this
      rw [List.getElem?_map, List.getElem?_range hil] at hx
      simp at hx
      subst hx
      have := (hg i hil).1
      rw [Addr.add_mid, Addr.add_mid, Addr.add_mid] at this
      exact ⟨this.1, by rw [Nat.add_assoc]; exact this.2.1, by rw [Nat.add_assoc]; exact this.2.2⟩
    · obtain ⟨i, hi, rfl⟩ := List.mem_map.1 hx
      exact (hg i (List.mem_range.1 hi)).2

theorem array2 {α : Type} {cs : Array α} (h : cs.size = 2) : ∃ c0 c1, cs = #[c0, c1] := by
  obtain ⟨l⟩ := cs
  match l, h with
  | [c0, c1], _ => exact ⟨c0, c1, rfl⟩
theorem open_arr2 {H : Type} {enc : TypeId × Value → H} {w : World} {r : Reach} {b0 base : Nat} {held : Bool} {v : Value} {d : DataW H} {p : List MemPlace} (hv : Value.okWide Try.prog w r b0 45 v)
    (h : DataW.Trod enc Try.prog w base (fun _ => true) held 45 v d p) : ∃ a b : Int, v = .agg #[.int .u8 a, .int .u8 b] ∧ (0 ≤ a ∧ a < 256) ∧ (0 ≤ b ∧ b < 256) := by
  have hc : Try.prog.cellsOf 45 = 2 := by kernel_rfl
  simp only [Value.okWide, Try.underlying45] at hv
  obtain ⟨cs, rfl, h2, _⟩ := hv
  rw [hc] at h2
  obtain ⟨c0, c1, rfl⟩ := array2 h2
  obtain ⟨fuel, hf⟩ := h
  obtain ⟨xs, m, _, _, _, hl, hel⟩ := DataW.trod_array Try.underlying45 hf
  have e1 : Try.prog.cellsOf 5 = 1 := by kernel_rfl
  rw [e1] at hel
  have key : ∀ i, i < 2 → ∃ n : Int, ([c0, c1] : List Value)[i]? = some (.int .u8 n) ∧ (0 ≤ n ∧ n < 256) := fun i hi => by
    have he := hel i hi
    rw [List.getElem?_eq_getElem (by omega)] at he
    obtain ⟨n, hcc, _, hw⟩ := DataW.trod_int Try.underlying5 he
    refine ⟨n, ?_, by have := bounds_u8 hw; omega⟩
    have := congrArg (·[0]?) hcc
    simpa [Value.cells, List.getElem?_take, List.getElem?_drop] using this
  obtain ⟨x0, k0, i0⟩ := key 0 (by omega)
  obtain ⟨x1, k1, i1⟩ := key 1 (by omega)
  simp at k0 k1
  subst k0 k1
  exact ⟨x0, x1, rfl, i0, i1⟩

/-- few returns true or false. -/
def FewPost (w : World) (e : Ending) (w' : World) : Prop := ∃ b : Bool, e = .returned (.bool b) ∧ Below w.heap.size w w'
set_option maxRecDepth 100000 in
set_option maxHeartbeats 4000000 in
theorem few6_any (os : List Op6) (oa : Option Addr) (ocap : Nat) (w : World) (ho : OpsIn w oa os ocap) : Calls Try.prog 16 #[.slice oa os.length ocap] w (FewPost w) := by
  have HO := Lib.hid ho
  have hN : os.length ≤ 9223372036854775807 := Nat.le_trans ho.len ho.capb
  have HF := Lib.hid (show ∀ (b : Bool) (s : HeldW w []), FewPost w (.returned (.bool b)) s.w from fun b s => ⟨b, rfl, s.below⟩)
  obtain ⟨Q, hQ⟩ : ∃ Q, Q = FewPost w := ⟨_, rfl⟩
  rw [← hQ] at HF ⊢
  obtain ⟨N, hNN⟩ : ∃ N, N = os.length := ⟨_, rfl⟩
  rw [← hNN] at hN ⊢
  have HN := Lib.hid hNN
  clear ho hQ hNN
  by_cases hbig : 60 < N
  · have d0 : decide ((60 : Int) < N) = true := by simp; omega
    go_enter Try.func16, Try.ntmps16
    go_wp2
    exact HF.out _ (HeldW.start w)
  · have d0 : decide ((60 : Int) < N) = false := by simp; omega
    go_enter Try.func16, Try.ntmps16
    go_wp2
    go_loopw [4, 10] (fun _ i wr => ∃ k : Nat, k ≤ N ∧ i = .int .i64 k ∧ ∃ s : HeldW w [], wr = s.w) (fun _ i _ => N - (intOf i).toNat)
    case atStart => exact ⟨0, by omega, rfl, HeldW.start w, rfl⟩
    case round =>
      obtain ⟨i, hi, rfl, s, rfl⟩ := hrel
      by_cases hlt : i < N
      · obtain ⟨c, hc⟩ : ∃ c, os[i]? = some c := ⟨_, List.getElem?_eq_getElem (by rw [← HN.out]; exact hlt)⟩
        obtain ⟨b, o, rfl, x0, x1, x2⟩ := (HO.out.below s.below).at hc
        obtain ⟨-, hn, hd⟩ := HO.out.ok _ (List.mem_of_getElem? hc)
        have hdl := hd.len
        have hdc := hd.capb
        clear hd hc
        obtain ⟨k, n, l, a, cap⟩ := c
        simp only at x0 x1 x2 hn hdl hdc
        generalize l.length = D at *
        obtain ⟨s1, hs1⟩ : ∃ s1 : HeldW w [], s.w.alloc (.cells #[.int .i64 k, .int .i64 n, .slice a D cap] 49) = s1.w := ⟨(s.push (.cells #[.int .i64 k, .int .i64 n, .slice a D cap] 49 (0, 0))).sub (by simp), rfl⟩
        have HS1 := Lib.hid hs1
        clear hs1
        by_cases q1 : 100 < D
        · have e1 : decide ((100 : Int) < D) = true := by simp; omega
          go_wp2
          rw [HS1.out]
          exact HF.out _ s1
        · have e1 : decide ((100 : Int) < D) = false := by simp; omega
          by_cases q2 : 3 ≤ k ∧ n = 0
          · obtain ⟨q2, rfl⟩ := q2
            have e2 : decide (3 ≤ k) = true := by simp; omega
            go_wp2
            rw [HS1.out]
            exact HF.out _ s1
          · have hor : ¬ 3 ≤ k ∨ n ≠ 0 := by omega
            by_cases q4 : 1152921504606846976 < n
            · have e4 : decide (1152921504606846976 < n) = true := by simp; omega
              have e3 : (n == 0) = false := by simp; omega
              by_cases q3 : 3 ≤ k
              · have e2 : decide (3 ≤ k) = true := by simp; omega
                go_wp2
                rw [HS1.out]
                exact HF.out _ s1
              · have e2 : decide (3 ≤ k) = false := by simp; omega
                go_wp2
                rw [HS1.out]
                exact HF.out _ s1
            · have e4 : decide (1152921504606846976 < n) = false := by simp; omega
              by_cases q5 : n < -1152921504606846976
              · have e5 : decide (n < -1152921504606846976) = true := by simp; omega
                have e3 : (n == 0) = false := by simp; omega
                by_cases q3 : 3 ≤ k
                · have e2 : decide (3 ≤ k) = true := by simp; omega
                  go_wp2
                  rw [HS1.out]
                  exact HF.out _ s1
                · have e2 : decide (3 ≤ k) = false := by simp; omega
                  go_wp2
                  rw [HS1.out]
                  exact HF.out _ s1
              · have e5 : decide (n < -1152921504606846976) = false := by simp; omega
                by_cases q3 : 3 ≤ k
                · have e2 : decide (3 ≤ k) = true := by simp; omega
                  have e3 : (n == 0) = false := by simp; omega
                  go_wp2
                  go_roundw
                  case rel => exact ⟨i + 1, by omega, by go_num, s1, HS1.out⟩
                  case measure => simp [intOf]; omega
                · have e2 : decide (3 ≤ k) = false := by simp; omega
                  go_wp2
                  go_roundw
                  case rel => exact ⟨i + 1, by omega, by go_num, s1, HS1.out⟩
                  case measure => simp [intOf]; omega
      · obtain rfl : N = i := by omega
        go_wp2
        exact HF.out _ s
end Go.Proofs.Ytclalbiggnalfaa
