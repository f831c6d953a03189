import Derived.Great.BuildSlice
import Derived.Test.YtdedfjkenbaebaaDoorE08a25
import Derived.Test.YtdedfjkenbaebaaDoorE08a19
import Derived.Test.YtdedfjkenbaebaaDoorE08a5
import Derived.Test.YtdedfjkenbaebaaDoorE08a17
import Derived.Test.YtdedfjkenbaebaaDoorE08a15
import Derived.Test.YtdedfjkenbaebaaDoorE08a12
/- newHash of package patch. -/
namespace Go.Proofs.YtdedfjkenbaebaaDoor
open Go.RowKit
set_option linter.unusedVariables false
set_option linter.unusedSimpArgs false

set_option maxRecDepth 100000 in
set_option maxHeartbeats 4000000 in
theorem field_cmds {D : Array Value} {o n : Int} {x y : List Int} {a : Option Addr} {m c : Nat} (h : DeltaOf D o n x y (.slice a m c)) (W : World) : (Instr.field 26 (.agg D) 4).run Tryd.prog W = .ok (.slice a m c) W := by
  obtain ⟨rfl, hx, hy⟩ := h
  obtain ⟨a0, at0, rfl, ah0⟩ := uncons8 hx
  obtain ⟨a1, at1, rfl, ah1⟩ := uncons8 ah0
  obtain ⟨a2, at2, rfl, ah2⟩ := uncons8 ah1
  obtain ⟨a3, at3, rfl, ah3⟩ := uncons8 ah2
  obtain ⟨a4, at4, rfl, ah4⟩ := uncons8 ah3
  obtain ⟨a5, at5, rfl, ah5⟩ := uncons8 ah4
  obtain ⟨a6, at6, rfl, ah6⟩ := uncons8 ah5
  obtain ⟨a7, at7, rfl, ah7⟩ := uncons8 ah6
  obtain ⟨a8, at8, rfl, ah8⟩ := uncons8 ah7
  obtain ⟨a9, at9, rfl, ah9⟩ := uncons8 ah8
  obtain ⟨a10, at10, rfl, ah10⟩ := uncons8 ah9
  obtain ⟨a11, at11, rfl, ah11⟩ := uncons8 ah10
  obtain ⟨a12, at12, rfl, ah12⟩ := uncons8 ah11
  obtain ⟨a13, at13, rfl, ah13⟩ := uncons8 ah12
  obtain ⟨a14, at14, rfl, ah14⟩ := uncons8 ah13
  obtain ⟨a15, at15, rfl, ah15⟩ := uncons8 ah14
  obtain ⟨a16, at16, rfl, ah16⟩ := uncons8 ah15
  obtain ⟨a17, at17, rfl, ah17⟩ := uncons8 ah16
  obtain ⟨a18, at18, rfl, ah18⟩ := uncons8 ah17
  obtain ⟨a19, at19, rfl, ah19⟩ := uncons8 ah18
  obtain ⟨a20, at20, rfl, ah20⟩ := uncons8 ah19
  obtain ⟨a21, at21, rfl, ah21⟩ := uncons8 ah20
  obtain ⟨a22, at22, rfl, ah22⟩ := uncons8 ah21
  obtain ⟨a23, at23, rfl, ah23⟩ := uncons8 ah22
  obtain ⟨a24, at24, rfl, ah24⟩ := uncons8 ah23
  obtain ⟨a25, at25, rfl, ah25⟩ := uncons8 ah24
  obtain ⟨a26, at26, rfl, ah26⟩ := uncons8 ah25
  obtain ⟨a27, at27, rfl, ah27⟩ := uncons8 ah26
  obtain ⟨a28, at28, rfl, ah28⟩ := uncons8 ah27
  obtain ⟨a29, at29, rfl, ah29⟩ := uncons8 ah28
  obtain ⟨a30, at30, rfl, ah30⟩ := uncons8 ah29
  obtain ⟨a31, at31, rfl, ah31⟩ := uncons8 ah30
  obtain rfl := List.eq_nil_of_length_eq_zero ah31
  obtain ⟨b0, bt0, rfl, bh0⟩ := uncons8 hy
  obtain ⟨b1, bt1, rfl, bh1⟩ := uncons8 bh0
  obtain ⟨b2, bt2, rfl, bh2⟩ := uncons8 bh1
  obtain ⟨b3, bt3, rfl, bh3⟩ := uncons8 bh2
  obtain ⟨b4, bt4, rfl, bh4⟩ := uncons8 bh3
  obtain ⟨b5, bt5, rfl, bh5⟩ := uncons8 bh4
  obtain ⟨b6, bt6, rfl, bh6⟩ := uncons8 bh5
  obtain ⟨b7, bt7, rfl, bh7⟩ := uncons8 bh6
  obtain ⟨b8, bt8, rfl, bh8⟩ := uncons8 bh7
  obtain ⟨b9, bt9, rfl, bh9⟩ := uncons8 bh8
  obtain ⟨b10, bt10, rfl, bh10⟩ := uncons8 bh9
  obtain ⟨b11, bt11, rfl, bh11⟩ := uncons8 bh10
  obtain ⟨b12, bt12, rfl, bh12⟩ := uncons8 bh11
  obtain ⟨b13, bt13, rfl, bh13⟩ := uncons8 bh12
  obtain ⟨b14, bt14, rfl, bh14⟩ := uncons8 bh13
  obtain ⟨b15, bt15, rfl, bh15⟩ := uncons8 bh14
  obtain ⟨b16, bt16, rfl, bh16⟩ := uncons8 bh15
  obtain ⟨b17, bt17, rfl, bh17⟩ := uncons8 bh16
  obtain ⟨b18, bt18, rfl, bh18⟩ := uncons8 bh17
  obtain ⟨b19, bt19, rfl, bh19⟩ := uncons8 bh18
  obtain ⟨b20, bt20, rfl, bh20⟩ := uncons8 bh19
  obtain ⟨b21, bt21, rfl, bh21⟩ := uncons8 bh20
  obtain ⟨b22, bt22, rfl, bh22⟩ := uncons8 bh21
  obtain ⟨b23, bt23, rfl, bh23⟩ := uncons8 bh22
  obtain ⟨b24, bt24, rfl, bh24⟩ := uncons8 bh23
  obtain ⟨b25, bt25, rfl, bh25⟩ := uncons8 bh24
  obtain ⟨b26, bt26, rfl, bh26⟩ := uncons8 bh25
  obtain ⟨b27, bt27, rfl, bh27⟩ := uncons8 bh26
  obtain ⟨b28, bt28, rfl, bh28⟩ := uncons8 bh27
  obtain ⟨b29, bt29, rfl, bh29⟩ := uncons8 bh28
  obtain ⟨b30, bt30, rfl, bh30⟩ := uncons8 bh29
  obtain ⟨b31, bt31, rfl, bh31⟩ := uncons8 bh30
  obtain rfl := List.eq_nil_of_length_eq_zero bh31
  kernel_rfl

theorem add_block8 (ad : Addr) (n : Nat) : (ad.add n).block = ad.block := by unfold Addr.add; split <;> rfl
theorem sl8_where {a : Option Addr} {cap f : Nat} : ∀ ad, slA8 a cap f = some ad → ∃ ad', a = some ad' ∧ ad.block = ad'.block := by
  intro ad h
  unfold slA8 at h
  split at h
  · exact ⟨ad, h, rfl⟩
  · obtain ⟨ad', ha, rfl⟩ := Option.map_eq_some_iff.1 h
    exact ⟨ad', ha, add_block8 _ _⟩
theorem cut_where {a Q : Option Addr} {L cap n : Nat} (w : World) (hn : n ≤ L) (hL : L ≤ cap) (e : (Instr.slice 22 (.slice a L cap) none (some (.int .i64 (n : Int))) none).run Tryd.prog w = .ok (.slice Q n cap) w) : ∀ ad, Q = some ad → ∃ ad', a = some ad' ∧ ad.block = ad'.block := by
  rw [run_slice_h (P := Tryd.prog) w 22 a L cap (by kernel_rfl) .i64 (n : Int) (by omega) (by omega), size_u8] at e
  simp only [Result.andThen_ok, sliced, Int.toNat_natCast, Nat.sub_zero] at e
  intro ad h
  have hQ : (if cap = 0 then a else a.map (·.add (0 * 1))) = Q := by injection e with e1; injection e1
  rw [h] at hQ
  split at hQ
  · exact ⟨ad, hQ, rfl⟩
  · obtain ⟨ad', ha, rfl⟩ := Option.map_eq_some_iff.1 hQ
    exact ⟨ad', ha, add_block8 _ _⟩
/-- The bytes that a command of a valid delta writes, and where they lie. -/
theorem content_where {o n : Int} {l : List Int} {a : Option Addr} {cap : Nat} {c : Cmd} {w : World} (hl : BytesIn w a l cap) (ho : (l.length : Int) = o) (hs : single o n c = 0) (hc : CmdOK w c) :
    ∃ A C, BytesIn w A (c.cont l) C ∧ (∀ ad, A = some ad → ∃ ad', (((0 < (c.cont l).length → 0 < l.length) ∧ a = some ad') ∨ c.a = some ad') ∧ ad.block = ad'.block) ∧ ∀ W, BytesIn W A (c.cont l) C → Calls Tryd.prog 26 #[.slice a l.length cap, cmdV c.k c.t c.f c.n (.slice c.a c.l.length c.cap)] W (Gives (.slice A (c.cont l).length C) W) := by
  obtain ⟨h1, h2, h3⟩ := single_ok hs
  have hk : c.k = 1 ∨ c.k = 2 := (cont_len ho hs).2
  rcases hk with hk | hk
  · obtain ⟨q1, q2⟩ := h3 hk
    have hw : c.w = c.n := by unfold Cmd.w wlen; rw [if_pos hk]
    obtain ⟨f, hf⟩ : ∃ f : Nat, c.f = f := ⟨c.f.toNat, by omega⟩
    obtain ⟨n', hn⟩ : ∃ n' : Nat, c.n = n' := ⟨c.n.toNat, by omega⟩
    have hcont : c.cont l = (l.drop f).take n' := by
      unfold Cmd.cont contC Cmd.core
      simp only
      rw [if_pos hk, hf, hn, Int.toNat_natCast, Int.toNat_natCast]
    have hfr := hl.from8 f (by omega)
    obtain ⟨Q, e3, hQ⟩ := cutb_h hfr n' (by rw [List.length_drop]; omega)
    rw [List.length_drop] at e3
    have hlen : (c.cont l).length = n' := by rw [hcont]; simp; omega
    have hlc := hl.len
    refine ⟨Q, cap - f, by rw [hcont]; exact hQ, fun ad had => ?_, fun W _ => ?_⟩
    · obtain ⟨a1, h1, e1⟩ := cut_where w (by omega) (by omega) (e3 w) ad had
      obtain ⟨a2, h2, e2⟩ := sl8_where a1 h1
      exact ⟨a2, .inl ⟨fun hp => by rw [hcont, List.length_take, List.length_drop] at hp; omega, h2⟩, e1.trans e2⟩
    · rw [hk, hf, hn, hlen]
      exact content_copy a l.length cap c.t f n' c.a Q c.cap c.l.length W hl.len hl.capb (by omega) e3
  · have hcont : c.cont l = c.l := by
      unfold Cmd.cont contC Cmd.core
      simp only
      rw [if_neg (by omega)]
    refine ⟨c.a, c.cap, by rw [hcont]; exact hc.b, fun ad had => ⟨ad, .inr had, rfl⟩, fun W hW => ?_⟩
    rw [hcont] at hW
    rw [hk, hcont]
    exact content_lit a l.length cap c.t c.f c.n c.l c.a c.cap W hW

theorem flat_take {α β : Type} {f : α → List β} (L : List α) (k : Nat) : ((L.take k).flatMap f).length ≤ (L.flatMap f).length := by
  conv => rhs; rw [← List.take_append_drop k L, List.flatMap_append, List.length_append]
  omega

set_option maxRecDepth 100000 in
set_option maxHeartbeats 4000000 in
theorem newHash_any (l : List Int) (a : Option Addr) (cap : Nat) (D : Array Value) (o : Int) (n : Nat) (x y : List Int) (ca : Option Addr) (cs : List Cmd) (ccap : Nat) (hD : DeltaOf D o n x y (.slice ca cs.length ccap)) (w : World) (hR : Roots w) (hl : BytesIn w a l cap) (h : CmdsIn w ca cs ccap) (hL : cs.length ≤ 1000000) (hsm : ∀ c ∈ cs, c.l.length ≤ 1000000) (hn : n ≤ 1000000) (ho : (l.length : Int) = o) (hv : ValidD o n cs) :
    Calls Tryd.prog 38 #[.slice a l.length cap, .agg D] w (Gives (.agg (byteA (shaL (newF l n cs)))) w) := by
  obtain ⟨S, hS⟩ := start2 w (deltaO D) (.cells zero32 23 (0, 0))
  have HSORT := Lib.hid (fun W (hb : Below w.heap.size w W) => dsort_any2 D o n x y ca cs ccap hD W (h.below hb) hL hsm)
  have hinf0 := infoDelta hD
  have HR := Lib.hid hR
  have HL := Lib.hid hl
  have HV := Lib.hid (And.intro ho hv)
  have HS := Lib.hid hS
  generalize hlen : l.length = LL at *
  clear hD hR hl h hL hsm ho hv hS
  go_enter Tryd.func38, Tryd.ntmps38
  go_wp2_with fail
  rw [HS.out]
  refine (HeldW.makes (s := S) (new_any _)).mono ?_
  rintro e _ ⟨g, ob, rfl, hg, hgb, hi, s1, rfl⟩
  have hgd := s1.blocks (w.heap.size, deltaO D) (by simp)
  clear HS S
  go_wp2_with (refine wpList_load_row rfl 26 (.tmp 3) rfl w.heap.size rfl 26 _ (0, 0) _ hgd Tryd.underlying26 rfl hinf0 ?_)
  refine (HSORT.out _ s1.below).mono ?_
  rintro e W2 ⟨D', g2, ds, ls, rfl, hD', hin, hco, hperm, hasc, hB, hge2, hap2⟩
  have hfl := field_cmds hD' W2
  obtain ⟨s2, h2⟩ := s1.after hB
  have hin0 := hin
  rw [h2] at hfl hin ⊢
  have hvl : ValidD o n ls := HV.out.2.perm hperm
  have hvd : ValidD o n ds := valid_cores hco hvl
  have hflat : ds.flatMap (Cmd.cont l) = newF l n cs := by
    have e1 : ds.flatMap (Cmd.cont l) = ls.flatMap (Cmd.cont l) := by
      have : ds.flatMap (Cmd.cont l) = (cores ds).flatMap (contC l) := by unfold cores; rw [List.flatMap_map]; rfl
      rw [this, hco]
      unfold cores
      rw [List.flatMap_map]
      rfl
    have hol : (l.length : Int) = o := by rw [hlen]; exact HV.out.1
    rw [e1, newF_flat hol hvl hasc, newF_perm hol HV.out.2 hperm]
  have HVD := Lib.hid (And.intro hvd hflat)
  have HIN := Lib.hid hin
  obtain ⟨CC, hCC⟩ : ∃ m, m = ds.length := ⟨_, rfl⟩
  have HCC := Lib.hid hCC
  rw [← hCC] at hfl
  clear hD' hin hin0 hco hperm hasc hB h2 hvl hvd hflat HSORT hCC
  go_wp2_with fail
  have hglt : g < s2.w.heap.size := (Array.getElem?_eq_some_iff.1 (s2.blocks (g, ob) (by simp))).1
  have hw2 : Below w.heap.size w s2.w := s2.below
  obtain ⟨X, hX⟩ : ∃ X : HeldX s2.w g [(g, ob), (w.heap.size + 1, .cells zero32 23 (0, 0))], s2.w = X.w := ⟨⟨s2.w, But.refl _ _ _, fun p hp => s2.blocks p (by
    simp only [List.mem_cons, List.not_mem_nil, or_false] at hp ⊢
    rcases hp with rfl | rfl <;> simp)⟩, rfl⟩
  have hgz : w.heap.size + 1 ≠ g := hgb.out (w.heap.size + 1, .cells zero32 23 (0, 0)) (by simp)
  have hg0 : g ≠ 0 := by have := HR.out.pos; omega
  have hap3 : Hid (∀ c ∈ ds, ∀ ad, c.a = some ad → ad.block ≠ g) := Lib.hid fun c hc ad had => by
    have h1 := hap2 c hc ad had
    have h2 : g < s1.w.heap.size := (Array.getElem?_eq_some_iff.1 (s1.blocks (g, ob) (by simp))).1
    omega
  have hg2g : g2 ≠ g := by
    have h2 : g < s1.w.heap.size := (Array.getElem?_eq_some_iff.1 (s1.blocks (g, ob) (by simp))).1
    omega
  have hl2 : Hid (BytesIn s2.w a l cap) := Lib.hid (HL.out.below hw2)
  have halo : Hid (0 < l.length → ∀ ad, a = some ad → ad.block ≠ g) := Lib.hid fun hp ad had => by
    obtain ⟨b, o', he, hc⟩ := HL.out.cells hp
    have := World.block_lt_of_cell? _ _ (hc 0 hp)
    rw [he] at had
    cases had
    simp only at this ⊢
    omega
  have HLE : Hid (l.length = LL) := Lib.hid hlen
  have HR2 := Lib.hid (HR.out.below hw2)
  have HW2 := Lib.hid hw2
  have hccb : CC ≤ 9223372036854775807 := by rw [HCC.out]; have := HIN.out.len; have := HIN.out.capb; omega
  rw [hX]
  clear hap2 hlen hw2 hX
  go_loopw [13] (fun v wr => ∃ (k : Nat) (m : List Int) (ob : Obj), k ≤ CC ∧ v = .int .i64 (k : Int) ∧ Hid (m = (ds.take k).flatMap (Cmd.cont l) ∧ Inv m ob) ∧ ∃ s : HeldX s2.w g [(g, ob), (w.heap.size + 1, .cells zero32 23 (0, 0))], wr = s.w) (fun v _ => CC - (intOf v).toNat)
  case atStart => exact ⟨0, [], ob, by omega, rfl, Lib.hid ⟨by simp, hi.out⟩, X, rfl⟩
  case round =>
    clear X hi
    obtain ⟨k, m, ob, hk, rfl, hm, s, rfl⟩ := hrel
    have hml : m.length ≤ n := by
      have h1 := flat_take (f := Cmd.cont l) ds k
      rw [← hm.out.1, HVD.out.2, newF_length] at h1
      exact h1
    by_cases hlt : k < CC
    · obtain ⟨c, hc⟩ : ∃ c, ds[k]? = some c := ⟨_, List.getElem?_eq_getElem (by rw [← HCC.out]; exact hlt)⟩
      have hcm := List.mem_of_getElem? hc
      have hs0 := HVD.out.1.all c hcm
      obtain ⟨b, oo, hbo, x0, x1, x2, x3, x4⟩ := HIN.out.at hc
      cases hbo
      have hk2 : ∀ i, s.w.cell? ⟨g2, i, none⟩ = s2.w.cell? ⟨g2, i, none⟩ := fun i => World.cell?_of_block (s.but.block g2 (World.block_lt_of_cell? _ _ x0) hg2g)
      rw [← hk2] at x0 x1 x2 x3 x4
      simp only [Nat.zero_add] at x0 x1 x2 x3 x4
      obtain ⟨A, C, hA, hAw, hcall⟩ := content_where hl2.out (show (l.length : Int) = o by rw [HLE.out]; exact HV.out.1) hs0 (HIN.out.ok c hcm)
      have hAg : 0 < (c.cont l).length → ∀ ad, A = some ad → ad.block ≠ g := fun hp ad had => by
        obtain ⟨ad', h1, h2⟩ := hAw ad had
        rw [h2]
        rcases h1 with h1 | h1
        · exact halo.out (h1.1 hp) ad' h1.2
        · exact hap3.out c hcm ad' h1
      obtain ⟨mm, hmm⟩ : ∃ mm, mm = c.cont l := ⟨_, rfl⟩
      rw [← hmm] at hA hcall hAg
      have hA2 : Hid (∀ (bs : List (Nat × Obj)) (s : HeldX s2.w g bs), BytesIn s.w A mm C) := Lib.hid fun bs s => bytes_keep hA (fun hp ad had hlt => s.but.block _ hlt (hAg hp ad had))
      have HAG := Lib.hid hAg
      have hnext : Hid (m ++ [mm].flatten = (ds.take (k + 1)).flatMap (Cmd.cont l)) := Lib.hid (by
        rw [List.take_add_one, hc, hm.out.1, hmm]
        simp)
      have hnl : m.length + mm.length ≤ n := by
        have h1 := flat_take (f := Cmd.cont l) ds (k + 1)
        rw [← hnext.out, HVD.out.2, newF_length] at h1
        simpa using h1
      have HCALL := Lib.hid hcall
      have HCb := Lib.hid (And.intro hA.len hA.capb)
      rw [HLE.out] at HCALL
      clear hc hcm hs0 hk2 hA hAw hcall hAg hmm
      go_wp2_with fail
      clear x0 x1 x2 x3 x4
      obtain ⟨s3, h3⟩ : ∃ s3 : HeldX s2.w g [(g, ob), (w.heap.size + 1, .cells zero32 23 (0, 0))], s.w.alloc (cmdO c.k c.t c.f c.n (.slice c.a c.l.length c.cap)) = s3.w := ⟨(s.push _).sub (fun p hp => List.mem_cons_of_mem _ hp), rfl⟩
      rw [h3]
      clear h3
      refine (HeldX.call (HCALL.out s3.w (hA2.out _ s3))).mono ?_
      rintro e _ ⟨rfl, s4, rfl⟩
      clear s3
      go_wp2_with fail
      obtain ⟨B, s5, hB, h5⟩ : ∃ (B : Nat) (s5 : HeldX s2.w g [(g, ob), (B, .cells #[.slice A mm.length C] 22 (0, 0)), (w.heap.size + 1, .cells zero32 23 (0, 0))]), B = s4.w.heap.size ∧ s4.w.alloc (.cells #[.slice A mm.length C] 22 (0, 0)) = s5.w := ⟨_, (s4.push (.cells #[.slice A mm.length C] 22 (0, 0))).sub (fun p hp => by
        simp only [List.mem_cons, List.not_mem_nil, or_false] at hp ⊢
        rcases hp with rfl | rfl | rfl <;> simp), rfl, rfl⟩
      have hgB : B ≠ g := by
        have := (Array.getElem?_eq_some_iff.1 (s4.blocks (g, ob) (by simp))).1
        simp only at this
        omega
      have hz1 : w.heap.size + 1 ≠ g := hgz
      rw [h5, ← hB]
      have hw := write_any g m [mm] ob (some ⟨B, 0, none⟩) 1 s5.w hm.out.2 (s5.blocks (g, ob) (by simp)) hg0 (HR2.out.X hg0 s5)
        (parts1 (s5.blocks (B, .cells #[.slice A mm.length C] 22 (0, 0)) (by simp)) hgB HCb.out.1 HCb.out.2 (fun hp => by
          obtain ⟨b', o', he, hc⟩ := (hA2.out _ s5).cells hp
          exact ⟨b', o', he, HAG.out hp _ he, hc⟩)) (by simp) (by simp; omega)
      have hw2 := HeldX.takes (s := s5) hw (.inl rfl) (all2 (Q := fun p : Nat × Obj => p.1 ≠ g) hgB hz1)
      clear hw h5 hB s4
      refine hw2.mono ?_
      rintro e _ ⟨rfl, ob', hi', s6, rfl⟩
      obtain ⟨s7, h7⟩ : ∃ s7 : HeldX s2.w g [(g, ob'), (w.heap.size + 1, .cells zero32 23 (0, 0))], s6.w = s7.w := ⟨s6.sub (fun p hp => by
        simp only [List.mem_cons, List.not_mem_nil, or_false] at hp ⊢
        rcases hp with rfl | rfl <;> simp), rfl⟩
      have HI7 := Lib.hid hi'
      rw [h7]
      clear hw2 h7 s6 s5
      go_wp2
      go_roundw
      case rel => exact ⟨k + 1, _, ob', by omega, by go_num, Lib.hid ⟨hnext.out, HI7.out.out⟩, s7, rfl⟩
      case measure => simp [intOf]; omega
    · obtain rfl : k = CC := by omega
      have hmF : m = newF l n cs := by rw [hm.out.1, HCC.out, List.take_length, HVD.out.2]
      have hsum := sum_any g m ob s.w hm.out.2 (s.blocks (g, ob) (by simp)) (HR2.out.X hg0 s) (by omega)
      rw [hmF] at hsum
      have hsl : (byteA (shaL (newF l n cs))).size = 32 := by rw [byteA_size, shaL_length]
      generalize shaL (newF l n cs) = dg at *
      have hinf : (Tryd.prog.info? 23).map (·.size) = some (byteA dg).size := by rw [hsl]; kernel_rfl
      have hsr : zero32.size = (byteA dg).size := by rw [hsl]; rfl
      have hone := byteA_one dg
      clear hsl hmF
      go_wp2_with fail
      refine (HeldX.call (s := s) hsum).mono ?_
      rintro e _ ⟨rfl, s8, rfl⟩
      have hst := s8.blocks (w.heap.size + 1, .cells zero32 23 (0, 0)) (by simp)
      have HBW := Lib.hid (show Below w.heap.size w s8.w from HW2.out.trans ((s8.but.mono HW2.out.size).below (by omega)))
      clear hsum
      go_wp2_with (refine wpList_store_rowTo rfl 23 (.tmp 4) (.tmp 25) rfl rfl (w.heap.size + 1) (byteA dg) rfl rfl 23 zero32 hst hinf hsr hone ?_)
      refine bodyPost_ret (v := .agg (byteA dg)) ?_ rfl ⟨rfl, below_setRow HBW.out (by omega) _⟩
      exact results_cell_row Tryd.results38 _ _ (w.heap.size + 1) 23 _ (0, 0) _ rfl (setRow_heap _ _ _ _ _ _ hst) Tryd.underlying23 rfl hinf

end Go.Proofs.YtdedfjkenbaebaaDoor

/- Verify of package patch. -/
namespace Go.Proofs.YtdedfjkenbaebaaDoor
open Go.RowKit
set_option linter.unusedVariables false
set_option linter.unusedSimpArgs false

/-- The fault that Verify tells. -/
noncomputable def verF (l : List Int) (o n : Int) (x y : List Int) (cs : List Cmd) : Int × Int :=
  if (faultOf o n cs).1 ≠ 0 then faultOf o n cs else if o ≠ (l.length : Int) then (13, (l.length : Int)) else if x ≠ shaL l then (14, 0) else if y ≠ shaL (newF l n.toNat cs) then (15, 0) else (0, 0)
abbrev flt8 (e a : Int) : Obj := .cells #[.int .i64 e, .int .i64 a] 42 (0, 0)

/-- The result is written. -/
theorem HeldW.ret8 {w : World} {bs : List (Nat × Obj)} (s : HeldW w bs) {g : Nat} (hg : w.heap.size ≤ g) {e a : Int} (hm : (g, flt8 e a) ∈ bs) (e' a' : Int) : Below w.heap.size w (s.w.setRow g #[.int .i64 e', .int .i64 a']) ∧ (s.w.setRow g #[.int .i64 e', .int .i64 a']).heap[g]? = some (flt8 e' a') :=
  ⟨below_setRow s.below hg _, setRow_heap _ _ _ _ _ _ (s.blocks _ hm)⟩

set_option maxRecDepth 100000 in
set_option maxHeartbeats 8000000 in
theorem pverify_any (l : List Int) (a : Option Addr) (cap : Nat) (D : Array Value) (o n : Int) (x y : List Int) (ca : Option Addr) (cs : List Cmd) (ccap : Nat) (hD : DeltaOf D o n x y (.slice ca cs.length ccap)) (w : World) (hR : Roots w) (hl : BytesIn w a l cap) (h : CmdsIn w ca cs ccap) (hL : cs.length ≤ 1000000) (hsm : ∀ c ∈ cs, c.l.length ≤ 1000000) (hlb : l.length ≤ 1000000) (hn : n ≤ 1000000) (io : I64 o) (inn : I64 n) :
    Calls Tryd.prog 20 #[.slice a l.length cap, .agg D] w (Gives (faultV (verF l o n x y cs).1 (verF l o n x y cs).2) w) := by
  obtain ⟨S, hS⟩ := start2 w (deltaO D) (flt8 0 0)
  have hc := dcheck_any D o n x y ca cs ccap hD S.w (h.W S) hL io inn
  have HG := Lib.hid (fun (bs : List (Nat × Obj)) (s : HeldW w bs) (hm : (w.heap.size, deltaO D) ∈ bs) => s.blocks (w.heap.size, deltaO D) hm)
  have H0 := Lib.hid (fun (bs : List (Nat × Obj)) (s : HeldW w bs) (hm : (w.heap.size, deltaO D) ∈ bs) => (cell_of (s.blocks (w.heap.size, deltaO D) hm) 0).trans hD.c0)
  have HLX := Lib.hid (fun (W : World) (hW : W.heap[w.heap.size]? = some (deltaO D)) => load_x hD hW)
  have HLY := Lib.hid (fun (W : World) (hW : W.heap[w.heap.size]? = some (deltaO D)) => load_y hD hW)
  have HLD := Lib.hid (fun (W : World) (hW : W.heap[w.heap.size]? = some (deltaO D)) => load_delta hD hW)
  have HR := Lib.hid hR
  have HB := Lib.hid hl
  have hxl := hD.xl
  have hyl := hD.yl
  have HNH : Hid ((faultOf o n cs).1 = 0 → o = (l.length : Int) → ∀ W, Below w.heap.size w W → Calls Tryd.prog 38 #[.slice a l.length cap, .agg D] W (Gives (.agg (byteA (shaL (newF l n.toNat cs)))) W)) := Lib.hid fun h1 h2 W hW => by
    have hv := faultOf_zero.1 h1
    obtain ⟨m, rfl⟩ : ∃ m : Nat, n = m := ⟨n.toNat, by have := hv.lens; unfold LensBad at this; omega⟩
    rw [Int.toNat_natCast]
    exact newHash_any l a cap D o m x y ca cs ccap hD W (hR.below hW) (hl.below hW) (h.below hW) hL hsm (by omega) h2.symm hv
  have hinf := infoDelta hD
  have hg : ((w.alloc (deltaO D)).alloc (flt8 0 0)).heap[w.heap.size]? = some (deltaO D) := heap_old (heap_new w _ rfl) _
  have HS := Lib.hid hS
  have hls := shaL_length l
  have hlf := shaL_length (newF l n.toNat cs)
  have hfi : (Tryd.prog.info? 42).map (·.size) = some 2 := by kernel_rfl
  unfold verF
  have hcap := hl.capb
  have hcl := hl.len
  obtain ⟨F, hF⟩ : ∃ F, F = newF l n.toNat cs := ⟨_, rfl⟩
  obtain ⟨f, hf⟩ : ∃ f, f = faultOf o n cs := ⟨_, rfl⟩
  rw [← hF] at HNH hlf
  rw [← hf] at hc HNH
  rw [← hF, ← hf]
  obtain ⟨e, p⟩ := f
  simp only at hc HNH
  clear hF hf hD hR hl h hL hsm hS
  obtain ⟨LL, hLL⟩ : ∃ m, m = l.length := ⟨_, rfl⟩
  have HLL := Lib.hid hLL
  rw [← hLL] at hlb hcl HNH ⊢
  clear hLL
  by_cases he : e = 0
  · have e1 : (e == 0) = true := by simpa using he
    rw [if_neg (show ¬ e ≠ 0 from fun h => h he)]
    clear he
    by_cases ho : o = (LL : Int)
    · have e2 : (o == (LL : Int)) = true := by simpa using ho
      rw [if_neg (show ¬ o ≠ (LL : Int) from fun h => h ho)]
      have hnh := HNH.out (by simpa using e1) ho
      have HNH := Lib.hid hnh
      have HOV := Lib.hid ho
      obtain ⟨POST, hP⟩ : ∃ P, P = Gives (faultV (if x ≠ shaL l then ((14 : Int), (0 : Int)) else if y ≠ shaL F then (15, 0) else (0, 0)).1 (if x ≠ shaL l then ((14 : Int), (0 : Int)) else if y ≠ shaL F then (15, 0) else (0, 0)).2) w := ⟨_, rfl⟩
      rw [← hP]
      have HQ14 : Hid (x ≠ shaL l → ∀ W, Below w.heap.size w W → POST (.returned (faultV 14 0)) W) := Lib.hid fun h W hW => by rw [hP, if_pos h]; exact ⟨rfl, hW⟩
      have HQ15 : Hid (x = shaL l → y ≠ shaL F → ∀ W, Below w.heap.size w W → POST (.returned (faultV 15 0)) W) := Lib.hid fun h h2 W hW => by rw [hP, if_neg (show ¬ x ≠ shaL l from fun hh => hh h), if_pos h2]; exact ⟨rfl, hW⟩
      have HQ0 : Hid (x = shaL l → y = shaL F → ∀ W, Below w.heap.size w W → POST (.returned (faultV 0 0)) W) := Lib.hid fun h h2 W hW => by rw [hP, if_neg (show ¬ x ≠ shaL l from fun hh => hh h), if_neg (show ¬ y ≠ shaL F from fun hh => hh h2)]; exact ⟨rfl, hW⟩
      clear ho hnh hP
      go_enter Tryd.func20, Tryd.ntmps20
      go_wp2_with (refine wpList_load_row rfl 26 (.tmp 3) rfl w.heap.size rfl 26 _ (0, 0) _ hg Tryd.underlying26 rfl hinf ?_)
      rw [HS.out]
      clear hg
      refine (HeldW.call hc).mono ?_
      rintro _ _ ⟨rfl, s1, rfl⟩
      have c0 : (s1.w.alloc (flt8 e p)).cell? ⟨w.heap.size, 0, none⟩ = some (.int .i64 o) := by
        have := H0.out _ (s1.push (flt8 e p)) (by simp)
        exact this
      go_wp2_with fail
      obtain ⟨s2, hs2⟩ : ∃ s2 : HeldW w [(w.heap.size + 1, flt8 0 0), (w.heap.size, deltaO D)], s1.w.alloc (flt8 e p) = s2.w := ⟨(s1.push (flt8 e p)).sub (fun q hq => List.mem_cons_of_mem _ (by simp only [List.mem_cons, List.not_mem_nil, or_false] at hq ⊢; rcases hq with rfl | rfl <;> simp)), rfl⟩
      rw [hs2]
      clear hs2 hc c0
      have hgd := s2.blocks (w.heap.size, deltaO D) (by simp)
      have HGD := Lib.hid (fun (W : World) (hW : Below s2.w.heap.size s2.w W) => heap_below hgd hW)
      have HW2 := Lib.hid (fun (W : World) (hW : Below s2.w.heap.size s2.w W) => s2.below.trans (hW.mono s2.below.size))
      clear hgd
      refine wp_region_loose
        [IsV (.pointer (some ⟨w.heap.size, 2, none⟩)), IsV (.agg (byteA x)), IsV (.slice a LL cap), IsB (.slice a LL cap), IsV (.agg (byteA (shaL l))), IsV (.bool (!decide (x = shaL l))), IsV (.bool (!decide (x = shaL l)))]
        [⟨22, [], [3]⟩, ⟨23, [(0, 22)], []⟩, ⟨24, [], [0]⟩, ⟨25, [(2, 24)], []⟩, ⟨26, [(3, 25)], []⟩, ⟨27, [(1, 23), (4, 26)], []⟩, ⟨21, [(5, 27)], []⟩]
        (fun W => Below s2.w.heap.size s2.w W) (fun W W' => Below W.heap.size W W') (by kernel_rfl) (by kernel_rfl) rfl rfl (Below.refl _ s2.w).drew ?_
        ⟨?_, ?_, ?_, ?_, ?_, ?_, ?_, trivial⟩ ?_
      · repeat (first | (intro _ h; cases h; done) | refine List.forall_mem_cons.2 ⟨stable_V _ _, ?_⟩ | refine List.forall_mem_cons.2 ⟨stable_B _, ?_⟩)
      · intro A W hC hd hx
        have hk : ∀ v, A.eval (.const v) = v := fun _ => rfl
        have hy0 : A.eval (.tmp 3) = .pointer (some ⟨w.heap.size, 0, none⟩) := hx 3 (by simp)
        clear hd
        generalize A.eval = ρ at hk hy0 ⊢
        simp [go_sem, looseUpon, factOf, hk, hy0]
        exact ⟨hC, Below.refl _ _⟩
      · intro A W hC hd hx
        simp [factOf] at hd
        have hld := HLX.out W (HGD.out W hC)
        refine ⟨fun g hg => (by cases hg), ?_⟩
        generalize A.eval = ρ at hd ⊢
        simp [execOp, hd, hld, looseUpon, factOf]
        exact ⟨hC, Below.refl _ _⟩
      · intro A W hC hd hx
        have hk : ∀ v, A.eval (.const v) = v := fun _ => rfl
        have hy0 : A.eval (.tmp 0) = .slice a LL cap := hx 0 (by simp)
        clear hd
        generalize A.eval = ρ at hk hy0 ⊢
        simp [go_sem, looseUpon, factOf, hk, hy0]
        exact ⟨hC, Below.refl _ _⟩
      · intro A W hC hd hx
        have hk : ∀ v, A.eval (.const v) = v := fun _ => rfl
        simp [factOf] at hd
        generalize A.eval = ρ at hd hk ⊢
        simp [go_sem, looseUpon, factOf, hd, hk]
        exact ⟨⟨_, rfl, World.alloc_heap_new _ _⟩, hC.alloc hC.size _, (Below.refl _ _).alloc (Nat.le_refl _) _⟩
      · intro A W hC hd hx
        simp [factOf] at hd
        obtain ⟨B, hd0, hBW⟩ := hd
        refine ⟨fun g hg => (by cases hg), ?_⟩
        refine loose_call rfl Tryd.func37 (by kernel_rfl) (by kernel_rfl) ?_
        simp only [List.map_toArray, List.map_cons, List.map_nil, hd0]
        have hBlt := (Array.getElem?_eq_some_iff.1 hBW).1
        rw [HLL.out] at hBW
        have hof := of_any [l] (some ⟨B, 0, none⟩) 1 W (HR.out.below (HW2.out W hC)) (fun g hg => parts1 hBW (by omega) (by rw [← HLL.out]; exact hcl) hcap (fun hp => by
          obtain ⟨b', o', he, hc⟩ := (HB.out.below (HW2.out W hC)).cells hp
          have := World.block_lt_of_cell? _ _ (hc 0 hp)
          simp only at this
          exact ⟨b', o', he, by omega, hc⟩)) (by simp) (by simp; have := HLL.out; omega)
        rw [show [l].flatten = l by simp] at hof
        refine hof.mono ?_
        rintro e' W' ⟨rfl, h4⟩
        exact ⟨_, rfl, rfl, hC.trans (h4.mono hC.size), h4⟩
      · intro A W hC hd hx
        have heq := equal32 x (shaL l) hxl hls W
        have hge := guard_arr32
        simp [factOf] at hd
        generalize A.eval = ρ at hd ⊢
        simp [go_sem, looseUpon, factOf, hd, heq, hge]
        exact ⟨hC, Below.refl _ _⟩
      · intro A W hC hd hx
        have hk : ∀ v, A.eval (.const v) = v := fun _ => rfl
        simp [factOf] at hd
        generalize A.eval = ρ at hd hk ⊢
        simp [go_sem, looseUpon, factOf, hd, hk]
        exact ⟨hC, Below.refl _ _⟩
      intro W hC
      simp only [ends]
      rintro _ rfl _ rfl _ rfl _ ⟨B, rfl, -⟩ _ rfl _ rfl _ rfl
      simp only [putAll, List.zip_cons_cons, List.zip_nil_left, List.foldl_cons, List.foldl_nil, Act.put, List.setIfInBounds_toArray, List.set_cons_succ, List.set_cons_zero]
      obtain ⟨s3, rfl⟩ := s2.after hC
      clear hC HGD HW2 s2
      by_cases hx : x = shaL l
      · have d1 : decide (x = shaL l) = true := decide_eq_true hx
        have HX := Lib.hid hx
        rw [d1]
        clear d1 hx
        go_wp2_with fail
        have hgd := s3.blocks (w.heap.size, deltaO D) (by simp)
        have HGD := Lib.hid (fun (W : World) (hW : Below s3.w.heap.size s3.w W) => heap_below hgd hW)
        have HW3 := Lib.hid (fun (W : World) (hW : Below s3.w.heap.size s3.w W) => s3.below.trans (hW.mono s3.below.size))
        clear hgd
        refine wp_region_loose
          [IsV (.pointer (some ⟨w.heap.size, 34, none⟩)), IsV (.agg (byteA y)), IsV (.slice a LL cap), IsV (.agg D), IsV (.agg (byteA (shaL F))), IsV (.bool (!decide (y = shaL F))), IsV (.bool (!decide (y = shaL F)))]
          [⟨30, [], [3]⟩, ⟨31, [(0, 30)], []⟩, ⟨32, [], [0]⟩, ⟨33, [], [3]⟩, ⟨34, [(2, 32), (3, 33)], []⟩, ⟨35, [(1, 31), (4, 34)], []⟩, ⟨29, [(5, 35)], []⟩]
          (fun W => Below s3.w.heap.size s3.w W) (fun W W' => Below W.heap.size W W') (by kernel_rfl) (by kernel_rfl) rfl rfl (Below.refl _ s3.w).drew ?_
          ⟨?_, ?_, ?_, ?_, ?_, ?_, ?_, trivial⟩ ?_
        · repeat (first | (intro _ h; cases h; done) | refine List.forall_mem_cons.2 ⟨stable_V _ _, ?_⟩)
        · intro A W hC hd hx
          have hk : ∀ v, A.eval (.const v) = v := fun _ => rfl
          have hy0 : A.eval (.tmp 3) = .pointer (some ⟨w.heap.size, 0, none⟩) := hx 3 (by simp)
          clear hd
          generalize A.eval = ρ at hk hy0 ⊢
          simp [go_sem, looseUpon, factOf, hk, hy0]
          exact ⟨hC, Below.refl _ _⟩
        · intro A W hC hd hx
          simp [factOf] at hd
          have hld := HLY.out W (HGD.out W hC)
          refine ⟨fun g hg => (by cases hg), ?_⟩
          generalize A.eval = ρ at hd ⊢
          simp [execOp, hd, hld, looseUpon, factOf]
          exact ⟨hC, Below.refl _ _⟩
        · intro A W hC hd hx
          have hk : ∀ v, A.eval (.const v) = v := fun _ => rfl
          have hy0 : A.eval (.tmp 0) = .slice a LL cap := hx 0 (by simp)
          clear hd
          generalize A.eval = ρ at hk hy0 ⊢
          simp [go_sem, looseUpon, factOf, hk, hy0]
          exact ⟨hC, Below.refl _ _⟩
        · intro A W hC hd hx
          have hy0 : A.eval (.tmp 3) = .pointer (some ⟨w.heap.size, 0, none⟩) := hx 3 (by simp)
          have hld := HLD.out W (HGD.out W hC)
          refine ⟨fun g hg => (by cases hg), ?_⟩
          clear hd
          generalize A.eval = ρ at hy0 ⊢
          simp [execOp, hy0, hld, looseUpon, factOf]
          exact ⟨hC, Below.refl _ _⟩
        · intro A W hC hd hx
          simp [factOf] at hd
          obtain ⟨hd0, hd1⟩ := hd
          refine ⟨fun g hg => (by cases hg), ?_⟩
          refine loose_call rfl Tryd.func38 (by kernel_rfl) (by kernel_rfl) ?_
          simp only [List.map_toArray, List.map_cons, List.map_nil, hd0, hd1]
          refine (HNH.out W (HW3.out W hC)).mono ?_
          rintro e' W' ⟨rfl, h4⟩
          exact ⟨_, rfl, rfl, hC.trans (h4.mono hC.size), h4⟩
        · intro A W hC hd hx
          have heq := equal32 y (shaL F) hyl hlf W
          have hge := guard_arr32
          simp [factOf] at hd
          generalize A.eval = ρ at hd ⊢
          simp [go_sem, looseUpon, factOf, hd, heq, hge]
          exact ⟨hC, Below.refl _ _⟩
        · intro A W hC hd hx
          have hk : ∀ v, A.eval (.const v) = v := fun _ => rfl
          simp [factOf] at hd
          generalize A.eval = ρ at hd hk ⊢
          simp [go_sem, looseUpon, factOf, hd, hk]
          exact ⟨hC, Below.refl _ _⟩
        intro W hC
        simp only [ends]
        rintro _ rfl _ rfl _ rfl _ rfl _ rfl _ rfl _ rfl
        simp only [putAll, List.zip_cons_cons, List.zip_nil_left, List.foldl_cons, List.foldl_nil, Act.put, List.setIfInBounds_toArray, List.set_cons_succ, List.set_cons_zero]
        obtain ⟨s4, rfl⟩ := s3.after hC
        clear hC HGD HW3 s3
        by_cases hy : y = shaL F
        · have d1 : decide (y = shaL F) = true := decide_eq_true hy
          have HY := Lib.hid hy
          rw [d1]
          clear d1 hy
          have hst := s4.blocks (w.heap.size + 1, flt8 0 0) (by simp)
          dsimp only at hst
          have hone : (#[.int .i64 0, .int .i64 0] : Array Value).all (·.oneCell') = true := by simp [Value.oneCell']
          obtain ⟨hbw, hhp⟩ := s4.ret8 (g := w.heap.size + 1) (by omega) (e := 0) (a := 0) (by simp) 0 0
          have HBW := Lib.hid (And.intro hbw hhp)
          clear hbw hhp
          go_wp2_with (refine wpList_store_rowTo rfl 42 (.tmp 4) (.tmp 37) rfl rfl (w.heap.size + 1) #[.int .i64 0, .int .i64 0] rfl rfl 42 #[.int .i64 0, .int .i64 0] hst hfi rfl hone ?_)
          refine bodyPost_ret (v := faultV 0 0) ?_ rfl (HQ0.out HX.out HY.out _ HBW.out.1)
          exact results_cell_row Tryd.results20 _ _ (w.heap.size + 1) 42 _ (0, 0) _ rfl HBW.out.2 Tryd.underlying42 rfl hfi
        · have d1 : decide (y = shaL F) = false := decide_eq_false hy
          have HY := Lib.hid hy
          rw [d1]
          clear d1 hy
          have hst := s4.blocks (w.heap.size + 1, flt8 0 0) (by simp)
          dsimp only at hst
          have hone : (#[.int .i64 15, .int .i64 0] : Array Value).all (·.oneCell') = true := by simp [Value.oneCell']
          obtain ⟨hbw, hhp⟩ := s4.ret8 (g := w.heap.size + 1) (by omega) (e := 0) (a := 0) (by simp) 15 0
          have HBW := Lib.hid (And.intro hbw hhp)
          clear hbw hhp
          go_wp2_with (refine wpList_store_rowTo rfl 42 (.tmp 4) (.tmp 36) rfl rfl (w.heap.size + 1) #[.int .i64 15, .int .i64 0] rfl rfl 42 #[.int .i64 0, .int .i64 0] hst hfi rfl hone ?_)
          refine bodyPost_ret (v := faultV 15 0) ?_ rfl (HQ15.out HX.out HY.out _ HBW.out.1)
          exact results_cell_row Tryd.results20 _ _ (w.heap.size + 1) 42 _ (0, 0) _ rfl HBW.out.2 Tryd.underlying42 rfl hfi
      · have d1 : decide (x = shaL l) = false := decide_eq_false hx
        have HX := Lib.hid hx
        rw [d1]
        clear d1 hx
        have hst := s3.blocks (w.heap.size + 1, flt8 0 0) (by simp)
        dsimp only at hst
        have hone : (#[.int .i64 14, .int .i64 0] : Array Value).all (·.oneCell') = true := by simp [Value.oneCell']
        obtain ⟨hbw, hhp⟩ := s3.ret8 (g := w.heap.size + 1) (by omega) (e := 0) (a := 0) (by simp) 14 0
        have HBW := Lib.hid (And.intro hbw hhp)
        clear hbw hhp
        go_wp2_with (refine wpList_store_rowTo rfl 42 (.tmp 4) (.tmp 28) rfl rfl (w.heap.size + 1) #[.int .i64 14, .int .i64 0] rfl rfl 42 #[.int .i64 0, .int .i64 0] hst hfi rfl hone ?_)
        refine bodyPost_ret (v := faultV 14 0) ?_ rfl (HQ14.out HX.out _ HBW.out.1)
        exact results_cell_row Tryd.results20 _ _ (w.heap.size + 1) 42 _ (0, 0) _ rfl HBW.out.2 Tryd.underlying42 rfl hfi
    · have e2 : (o == (LL : Int)) = false := by simpa using ho
      rw [if_pos (show o ≠ (LL : Int) from ho)]
      clear ho
      go_enter Tryd.func20, Tryd.ntmps20
      go_wp2_with (refine wpList_load_row rfl 26 (.tmp 3) rfl w.heap.size rfl 26 _ (0, 0) _ hg Tryd.underlying26 rfl hinf ?_)
      rw [HS.out]
      clear hg
      refine (HeldW.call hc).mono ?_
      rintro _ _ ⟨rfl, s1, rfl⟩
      have c0 : (s1.w.alloc (flt8 e p)).cell? ⟨w.heap.size, 0, none⟩ = some (.int .i64 o) := by
        have := H0.out _ (s1.push (flt8 e p)) (by simp)
        exact this
      obtain ⟨s2, hs2⟩ : ∃ s2 : HeldW w [(w.heap.size + 1, flt8 0 0), (w.heap.size, deltaO D)], s1.w.alloc (flt8 e p) = s2.w := ⟨(s1.push (flt8 e p)).sub (fun q hq => List.mem_cons_of_mem _ (by simp only [List.mem_cons, List.not_mem_nil, or_false] at hq ⊢; rcases hq with rfl | rfl <;> simp)), rfl⟩
      have hst : (s1.w.alloc (flt8 e p)).heap[w.heap.size + 1]? = some (flt8 0 0) := by rw [hs2]; exact s2.blocks (w.heap.size + 1, flt8 0 0) (by simp)
      have hone : (#[.int .i64 13, .int .i64 (LL : Int)] : Array Value).all (·.oneCell') = true := by simp [Value.oneCell']
      obtain ⟨hbw, hhp⟩ := s2.ret8 (g := w.heap.size + 1) (by omega) (e := 0) (a := 0) (by simp) 13 (LL : Int)
      rw [← hs2] at hbw hhp
      have HBW := Lib.hid (And.intro hbw hhp)
      clear hs2 hbw hhp hc
      go_wp2_with (refine wpList_store_rowTo rfl 42 (.tmp 4) (.tmp 20) rfl rfl (w.heap.size + 1) #[.int .i64 13, .int .i64 (LL : Int)] rfl rfl 42 #[.int .i64 0, .int .i64 0] hst hfi rfl hone ?_)
      refine bodyPost_ret (v := faultV 13 (LL : Int)) ?_ rfl ⟨rfl, HBW.out.1⟩
      exact results_cell_row Tryd.results20 _ _ (w.heap.size + 1) 42 _ (0, 0) _ rfl HBW.out.2 Tryd.underlying42 rfl hfi
  · have e1 : (e == 0) = false := by simpa using he
    rw [if_pos (show e ≠ 0 from he)]
    clear he
    go_enter Tryd.func20, Tryd.ntmps20
    go_wp2_with (refine wpList_load_row rfl 26 (.tmp 3) rfl w.heap.size rfl 26 _ (0, 0) _ hg Tryd.underlying26 rfl hinf ?_)
    rw [HS.out]
    clear hg
    refine (HeldW.call hc).mono ?_
    rintro _ _ ⟨rfl, s1, rfl⟩
    obtain ⟨s2, hs2⟩ : ∃ s2 : HeldW w [(w.heap.size + 1, flt8 0 0), (w.heap.size, deltaO D)], s1.w.alloc (flt8 e p) = s2.w := ⟨(s1.push (flt8 e p)).sub (fun q hq => List.mem_cons_of_mem _ (by simp only [List.mem_cons, List.not_mem_nil, or_false] at hq ⊢; rcases hq with rfl | rfl <;> simp)), rfl⟩
    have hst : (s1.w.alloc (flt8 e p)).heap[w.heap.size + 1]? = some (flt8 0 0) := by rw [hs2]; exact s2.blocks (w.heap.size + 1, flt8 0 0) (by simp)
    have hone : (#[.int .i64 e, .int .i64 p] : Array Value).all (·.oneCell') = true := by simp [Value.oneCell']
    obtain ⟨hbw, hhp⟩ := s2.ret8 (g := w.heap.size + 1) (by omega) (e := 0) (a := 0) (by simp) e p
    rw [← hs2] at hbw hhp
    have HBW := Lib.hid (And.intro hbw hhp)
    clear hs2 hbw hhp hc
    go_wp2_with (refine wpList_store_rowTo rfl 42 (.tmp 4) (.tmp 11) rfl rfl (w.heap.size + 1) #[.int .i64 e, .int .i64 p] rfl rfl 42 #[.int .i64 0, .int .i64 0] hst hfi rfl hone ?_)
    refine bodyPost_ret (v := faultV e p) ?_ rfl ⟨rfl, HBW.out.1⟩
    exact results_cell_row Tryd.results20 _ _ (w.heap.size + 1) 42 _ (0, 0) _ rfl HBW.out.2 Tryd.underlying42 rfl hfi
end Go.Proofs.YtdedfjkenbaebaaDoor

/- ShaClones returns true for all bytes, and changes nothing that was there. -/
namespace Go.Proofs.YtdedfjkenbaebaaDoor
open Go.RowKit
set_option linter.unusedVariables false

theorem HeldW.src {w : World} {a : Option Addr} {l : List Int} {cap g : Nat} (h : BytesIn w a l cap) (hg : w.heap.size ≤ g) {bs : List (Nat × Obj)} (s : HeldW w bs) : Src s.w g a l := (h.src hg).below s.below

/-- Write of one part that lies in a new block. -/
theorem write1 {w : World} {bs : List (Nat × Obj)} {g P : Nat} {o : Obj} {m l : List Int} {a : Option Addr} {cap : Nat} (s : HeldW w ((P, .cells #[.slice a l.length cap] 22 (0, 0)) :: (g, o) :: bs)) (hR : Hid (Roots w)) (hi : Hid (Inv m o)) (hg : w.heap.size ≤ g) (hP : P ≠ g)
    (hne : ∀ p ∈ bs, p.1 ≠ g) (hs : Src s.w g a l) (hcap : l.length ≤ cap) (hcap2 : cap ≤ 9223372036854775807) (hm : m.length + l.length < 1000000) :
    Calls Tryd.prog 63 #[.pointer (some ⟨g, 0, none⟩), .slice (some ⟨P, 0, none⟩) 1 1] s.w fun e w'' => e = .returned (.int .i64 l.length) ∧ ∃ o', Hid (Inv (m ++ l) o') ∧ ∃ s' : HeldW w ((g, o') :: bs), w'' = s'.w := by
  have hw := write_any g m [l] o (some ⟨P, 0, none⟩) 1 s.w hi.out (s.blocks (g, o) (List.mem_cons_of_mem _ List.mem_cons_self)) (by have := hR.out.pos; omega) (hR.out.W s) (parts1 (s.blocks (_, _) List.mem_cons_self) hP hcap hcap2 hs) (by simp) (by simp; omega)
  rw [show ([l] : List (List Int)).flatten = l by simp] at hw
  exact HeldW.takes (s := s.sub (bs' := (g, o) :: bs) (fun p hp => List.mem_cons_of_mem _ hp)) hw hg hne

/-- Of of two parts that lie in a new block. -/
theorem of2 {w : World} {bs : List (Nat × Obj)} {l l' : List Int} {a a' : Option Addr} {cap cap' : Nat} (s : HeldW w bs) (hR : Hid (Roots w)) (hs : ∀ {g : Nat}, w.heap.size ≤ g → ∀ {bs : List (Nat × Obj)} (s : HeldW w bs), Src s.w g a l) (hcap : l.length ≤ cap) (hcap2 : cap ≤ 9223372036854775807)
    (hs' : ∀ {g : Nat}, w.heap.size ≤ g → ∀ {bs : List (Nat × Obj)} (s : HeldW w bs), Src s.w g a' l') (hcap' : l'.length ≤ cap') (hcap2' : cap' ≤ 9223372036854775807) (hm : l.length + l'.length < 1000000) :
    Calls Tryd.prog 37 #[.slice (some ⟨s.w.heap.size, 0, none⟩) 2 2] (s.w.alloc (.cells #[.slice a l.length cap, .slice a' l'.length cap'] 22)) fun e w'' => e = .returned (.agg (byteA (shaL (l ++ l')))) ∧ ∃ s' : HeldW w bs, w'' = s'.w := by
  have hb := (s.push (.cells #[.slice a l.length cap, .slice a' l'.length cap'] 22 (0, 0))).blocks (_, _) List.mem_cons_self
  have ho := of_any [l, l'] (some ⟨s.w.heap.size, 0, none⟩) 2 (s.push (.cells #[.slice a l.length cap, .slice a' l'.length cap'] 22 (0, 0))).w (hR.out.W _) (fun g hg => by
    have hlt := (Array.getElem?_eq_some_iff.1 hb).1
    have hw := (s.push (.cells #[.slice a l.length cap, .slice a' l'.length cap'] 22 (0, 0))).below.size
    exact parts2 hb (Nat.ne_of_lt (Nat.lt_of_lt_of_le hlt hg)) hcap hcap2 (hs (Nat.le_trans hw hg) _) hcap' hcap2' (hs' (Nat.le_trans hw hg) _)) (by simp) (by simp; omega)
  rw [show ([l, l'] : List (List Int)).flatten = l ++ l' by simp] at ho
  refine (HeldW.call ho).mono ?_
  rintro e _ ⟨rfl, s2, rfl⟩
  exact ⟨rfl, s2.sub (fun p hp => List.mem_cons_of_mem _ hp), rfl⟩
/-- Of of one part that lies in a new block. -/
theorem of1 {w : World} {bs : List (Nat × Obj)} {l : List Int} {a : Option Addr} {cap : Nat} (s : HeldW w bs) (hR : Hid (Roots w)) (hs : ∀ {g : Nat}, w.heap.size ≤ g → ∀ {bs : List (Nat × Obj)} (s : HeldW w bs), Src s.w g a l) (hcap : l.length ≤ cap) (hcap2 : cap ≤ 9223372036854775807) (hm : l.length < 1000000) :
    Calls Tryd.prog 37 #[.slice (some ⟨s.w.heap.size, 0, none⟩) 1 1] (s.w.alloc (.cells #[.slice a l.length cap] 22)) fun e w'' => e = .returned (.agg (byteA (shaL l))) ∧ ∃ s' : HeldW w bs, w'' = s'.w := by
  have hb := (s.push (.cells #[.slice a l.length cap] 22 (0, 0))).blocks (_, _) List.mem_cons_self
  have ho := of_any [l] (some ⟨s.w.heap.size, 0, none⟩) 1 (s.push (.cells #[.slice a l.length cap] 22 (0, 0))).w (hR.out.W _) (fun g hg => by
    have hlt := (Array.getElem?_eq_some_iff.1 hb).1
    have hw := (s.push (.cells #[.slice a l.length cap] 22 (0, 0))).below.size
    exact parts1 hb (Nat.ne_of_lt (Nat.lt_of_lt_of_le hlt hg)) hcap hcap2 (hs (Nat.le_trans hw hg) _)) (by simp) (by simp; omega)
  rw [show ([l] : List (List Int)).flatten = l by simp] at ho
  refine (HeldW.call ho).mono ?_
  rintro e _ ⟨rfl, s2, rfl⟩
  exact ⟨rfl, s2.sub (fun p hp => List.mem_cons_of_mem _ hp), rfl⟩

end Go.Proofs.YtdedfjkenbaebaaDoor

/- ShaNil returns true for all bytes, and changes nothing that was there. -/
namespace Go.Proofs.YtdedfjkenbaebaaDoor
open Go.RowKit
set_option linter.unusedVariables false

end Go.Proofs.YtdedfjkenbaebaaDoor

/- ShaParts returns true for all lists of bytes, and changes nothing that was there. -/
namespace Go.Proofs.YtdedfjkenbaebaaDoor
open Go.RowKit
set_option linter.unusedVariables false

theorem load_arr (D : List Int) (hD : D.length = 32) {w : World} {g : Nat} (hb : w.heap[g]? = some (.cells (byteA D) 23 (0, 0))) : (Instr.loadAt 23 (.pointer (some ⟨g, 0, none⟩))).run Tryd.prog w = .ok (.agg (byteA D)) w := by
  simp only [Instr.loadAt, Instr.sureAddr, Sem.run_bind, Sem.run_pure, Result.andThen_ok]
  exact run_loadVar_row w g 23 23 (byteA D) (0, 0) _ hb Tryd.underlying23 rfl (by rw [byteA_size, hD]; kernel_rfl)

end Go.Proofs.YtdedfjkenbaebaaDoor
