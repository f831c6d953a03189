import Derived.Great.BuildSlice
import Derived.Test.YtgmjppjgbalapaaE09q22
import Derived.Test.YtgmjppjgbalapaaE09q17
import Derived.Test.YtgmjppjgbalapaaE09q21
import Derived.Test.YtgmjppjgbalapaaE09q14
import Derived.BigQuiet
import Derived.Test.YtgmjppjgbalapaaE09q19
/- newHash of package patch. -/
namespace Go.Proofs.Ytgmjppjgbalapaa
open Go.RowKit
set_option linter.unusedVariables false
set_option linter.unusedSimpArgs false

set_option maxRecDepth 100000 in
set_option maxHeartbeats 4000000 in
theorem field_cmds {D : Array Value} {o n : Int} {x y : List Int} {a : Option Addr} {m c : Nat} (h : DeltaOf D o n x y (.slice a m c)) (W : World) : (Instr.field 34 (.agg D) 4).run Try.prog W = .ok (.slice a m c) W := by
  obtain ⟨rfl, hx, hy⟩ := h
  obtain ⟨a0, at0, rfl, ah0⟩ := uncons8 hx
  obtain ⟨a1, at1, rfl, ah1⟩ := uncons8 ah0
  obtain ⟨a2, at2, rfl, ah2⟩ := uncons8 ah1
  obtain ⟨a3, at3, rfl, ah3⟩ := uncons8 ah2
  obtain ⟨a4, at4, rfl, ah4⟩ := uncons8 ah3
  obtain ⟨a5, at5, rfl, ah5⟩ := uncons8 ah4
  obtain ⟨a6, at6, rfl, ah6⟩ := uncons8 ah5
  obtain ⟨a7, at7, rfl, ah7⟩ := uncons8 ah6
  obtain ⟨a8, at8, rfl, ah8⟩ := uncons8 ah7
  obtain ⟨a9, at9, rfl, ah9⟩ := uncons8 ah8
  obtain ⟨a10, at10, rfl, ah10⟩ := uncons8 ah9
  obtain ⟨a11, at11, rfl, ah11⟩ := uncons8 ah10
  obtain ⟨a12, at12, rfl, ah12⟩ := uncons8 ah11
  obtain ⟨a13, at13, rfl, ah13⟩ := uncons8 ah12
  obtain ⟨a14, at14, rfl, ah14⟩ := uncons8 ah13
  obtain ⟨a15, at15, rfl, ah15⟩ := uncons8 ah14
  obtain ⟨a16, at16, rfl, ah16⟩ := uncons8 ah15
  obtain ⟨a17, at17, rfl, ah17⟩ := uncons8 ah16
  obtain ⟨a18, at18, rfl, ah18⟩ := uncons8 ah17
  obtain ⟨a19, at19, rfl, ah19⟩ := uncons8 ah18
  obtain ⟨a20, at20, rfl, ah20⟩ := uncons8 ah19
  obtain ⟨a21, at21, rfl, ah21⟩ := uncons8 ah20
  obtain ⟨a22, at22, rfl, ah22⟩ := uncons8 ah21
  obtain ⟨a23, at23, rfl, ah23⟩ := uncons8 ah22
  obtain ⟨a24, at24, rfl, ah24⟩ := uncons8 ah23
  obtain ⟨a25, at25, rfl, ah25⟩ := uncons8 ah24
  obtain ⟨a26, at26, rfl, ah26⟩ := uncons8 ah25
  obtain ⟨a27, at27, rfl, ah27⟩ := uncons8 ah26
  obtain ⟨a28, at28, rfl, ah28⟩ := uncons8 ah27
  obtain ⟨a29, at29, rfl, ah29⟩ := uncons8 ah28
  obtain ⟨a30, at30, rfl, ah30⟩ := uncons8 ah29
  obtain ⟨a31, at31, rfl, ah31⟩ := uncons8 ah30
  obtain rfl := List.eq_nil_of_length_eq_zero ah31
  obtain ⟨b0, bt0, rfl, bh0⟩ := uncons8 hy
  obtain ⟨b1, bt1, rfl, bh1⟩ := uncons8 bh0
  obtain ⟨b2, bt2, rfl, bh2⟩ := uncons8 bh1
  obtain ⟨b3, bt3, rfl, bh3⟩ := uncons8 bh2
  obtain ⟨b4, bt4, rfl, bh4⟩ := uncons8 bh3
  obtain ⟨b5, bt5, rfl, bh5⟩ := uncons8 bh4
  obtain ⟨b6, bt6, rfl, bh6⟩ := uncons8 bh5
  obtain ⟨b7, bt7, rfl, bh7⟩ := uncons8 bh6
  obtain ⟨b8, bt8, rfl, bh8⟩ := uncons8 bh7
  obtain ⟨b9, bt9, rfl, bh9⟩ := uncons8 bh8
  obtain ⟨b10, bt10, rfl, bh10⟩ := uncons8 bh9
  obtain ⟨b11, bt11, rfl, bh11⟩ := uncons8 bh10
  obtain ⟨b12, bt12, rfl, bh12⟩ := uncons8 bh11
  obtain ⟨b13, bt13, rfl, bh13⟩ := uncons8 bh12
  obtain ⟨b14, bt14, rfl, bh14⟩ := uncons8 bh13
  obtain ⟨b15, bt15, rfl, bh15⟩ := uncons8 bh14
  obtain ⟨b16, bt16, rfl, bh16⟩ := uncons8 bh15
  obtain ⟨b17, bt17, rfl, bh17⟩ := uncons8 bh16
  obtain ⟨b18, bt18, rfl, bh18⟩ := uncons8 bh17
  obtain ⟨b19, bt19, rfl, bh19⟩ := uncons8 bh18
  obtain ⟨b20, bt20, rfl, bh20⟩ := uncons8 bh19
  obtain ⟨b21, bt21, rfl, bh21⟩ := uncons8 bh20
  obtain ⟨b22, bt22, rfl, bh22⟩ := uncons8 bh21
  obtain ⟨b23, bt23, rfl, bh23⟩ := uncons8 bh22
  obtain ⟨b24, bt24, rfl, bh24⟩ := uncons8 bh23
  obtain ⟨b25, bt25, rfl, bh25⟩ := uncons8 bh24
  obtain ⟨b26, bt26, rfl, bh26⟩ := uncons8 bh25
  obtain ⟨b27, bt27, rfl, bh27⟩ := uncons8 bh26
  obtain ⟨b28, bt28, rfl, bh28⟩ := uncons8 bh27
  obtain ⟨b29, bt29, rfl, bh29⟩ := uncons8 bh28
  obtain ⟨b30, bt30, rfl, bh30⟩ := uncons8 bh29
  obtain ⟨b31, bt31, rfl, bh31⟩ := uncons8 bh30
  obtain rfl := List.eq_nil_of_length_eq_zero bh31
  kernel_rfl

theorem add_block8 (ad : Addr) (n : Nat) : (ad.add n).block = ad.block := by unfold Addr.add; split <;> rfl
theorem sl8_where {a : Option Addr} {cap f : Nat} : ∀ ad, slA8 a cap f = some ad → ∃ ad', a = some ad' ∧ ad.block = ad'.block := by
  intro ad h
  unfold slA8 at h
  split at h
  · exact ⟨ad, h, rfl⟩
  · obtain ⟨ad', ha, rfl⟩ := Option.map_eq_some_iff.1 h
    exact ⟨ad', ha, add_block8 _ _⟩
theorem cut_where {a Q : Option Addr} {L cap n : Nat} (w : World) (hn : n ≤ L) (hL : L ≤ cap) (e : (Instr.slice 24 (.slice a L cap) none (some (.int .i64 (n : Int))) none).run Try.prog w = .ok (.slice Q n cap) w) : ∀ ad, Q = some ad → ∃ ad', a = some ad' ∧ ad.block = ad'.block := by
  rw [run_slice_h (P := Try.prog) w 24 a L cap (by kernel_rfl) .i64 (n : Int) (by omega) (by omega), size_u8] at e
  simp only [Result.andThen_ok, sliced, Int.toNat_natCast, Nat.sub_zero] at e
  intro ad h
  have hQ : (if cap = 0 then a else a.map (·.add (0 * 1))) = Q := by injection e with e1; injection e1
  rw [h] at hQ
  split at hQ
  · exact ⟨ad, hQ, rfl⟩
  · obtain ⟨ad', ha, rfl⟩ := Option.map_eq_some_iff.1 hQ
    exact ⟨ad', ha, add_block8 _ _⟩
/-- The bytes that a command of a valid delta writes, and where they lie. -/
theorem content_where {o n : Int} {l : List Int} {a : Option Addr} {cap : Nat} {c : Cmd} {w : World} (hl : BytesIn w a l cap) (ho : (l.length : Int) = o) (hs : single o n c = 0) (hc : CmdOK w c) :
    ∃ A C, BytesIn w A (c.cont l) C ∧ (∀ ad, A = some ad → ∃ ad', (((0 < (c.cont l).length → 0 < l.length) ∧ a = some ad') ∨ c.a = some ad') ∧ ad.block = ad'.block) ∧ ∀ W, BytesIn W A (c.cont l) C → Calls Try.prog 44 #[.slice a l.length cap, cmdV c.k c.t c.f c.n (.slice c.a c.l.length c.cap)] W (Gives (.slice A (c.cont l).length C) W) := by
  obtain ⟨h1, h2, h3⟩ := single_ok hs
  have hk : c.k = 1 ∨ c.k = 2 := (cont_len ho hs).2
  rcases hk with hk | hk
  · obtain ⟨q1, q2⟩ := h3 hk
    have hw : c.w = c.n := by unfold Cmd.w wlen; rw [if_pos hk]
    obtain ⟨f, hf⟩ : ∃ f : Nat, c.f = f := ⟨c.f.toNat, by omega⟩
    obtain ⟨n', hn⟩ : ∃ n' : Nat, c.n = n' := ⟨c.n.toNat, by omega⟩
    have hcont : c.cont l = (l.drop f).take n' := by
      unfold Cmd.cont contC Cmd.core
      simp only
      rw [if_pos hk, hf, hn, Int.toNat_natCast, Int.toNat_natCast]
    have hfr := hl.from8 f (by omega)
    obtain ⟨Q, e3, hQ⟩ := cutb_h hfr n' (by rw [List.length_drop]; omega)
    rw [List.length_drop] at e3
    have hlen : (c.cont l).length = n' := by rw [hcont]; simp; omega
    have hlc := hl.len
    refine ⟨Q, cap - f, by rw [hcont]; exact hQ, fun ad had => ?_, fun W _ => ?_⟩
    · obtain ⟨a1, h1, e1⟩ := cut_where w (by omega) (by omega) (e3 w) ad had
      obtain ⟨a2, h2, e2⟩ := sl8_where a1 h1
      exact ⟨a2, .inl ⟨fun hp => by rw [hcont, List.length_take, List.length_drop] at hp; omega, h2⟩, e1.trans e2⟩
    · rw [hk, hf, hn, hlen]
      exact content_copy a l.length cap c.t f n' c.a Q c.cap c.l.length W hl.len hl.capb (by omega) e3
  · have hcont : c.cont l = c.l := by
      unfold Cmd.cont contC Cmd.core
      simp only
      rw [if_neg (by omega)]
    refine ⟨c.a, c.cap, by rw [hcont]; exact hc.b, fun ad had => ⟨ad, .inr had, rfl⟩, fun W hW => ?_⟩
    rw [hcont] at hW
    rw [hk, hcont]
    exact content_lit a l.length cap c.t c.f c.n c.l c.a c.cap W hW

theorem flat_take {α β : Type} {f : α → List β} (L : List α) (k : Nat) : ((L.take k).flatMap f).length ≤ (L.flatMap f).length := by
  conv => rhs; rw [← List.take_append_drop k L, List.flatMap_append, List.length_append]
  omega

end Go.Proofs.Ytgmjppjgbalapaa

/- Tidy of package tidy. -/
namespace Go.Proofs.Ytgmjppjgbalapaa
open Go.RowKit Go.Proofs.Ytgmjppjgbalapaa.Plain01
set_option linter.unusedVariables false
set_option linter.unusedSimpArgs false

theorem CmdsIn.keep9 {W W' : World} {B : Nat} {a : Option Addr} {cs : List Cmd} {cap : Nat} (h : CmdsIn W a cs cap) (hk : ∀ k, B ≤ k → k < W.heap.size → W'.heap[k]? = W.heap[k]?) (ha : 0 < cs.length → ∀ ad, a = some ad → B ≤ ad.block) (hd : ∀ c ∈ cs, 0 < c.l.length → ∀ ad, c.a = some ad → B ≤ ad.block) : CmdsIn W' a cs cap :=
  ⟨h.len, h.capb, fun hp => by
    obtain ⟨b, o, he, hc⟩ := h.cells hp
    refine ⟨b, o, he, fun i c hi j u hu => ?_⟩
    have h1 := hc i c hi j u hu
    rw [World.cell?_of_block (w := W) (w' := W') (hk b (ha hp _ he) (World.block_lt_of_cell? _ _ h1))]
    exact h1, fun c hc => ⟨(h.ok c hc).k, (h.ok c hc).t, (h.ok c hc).f, (h.ok c hc).n, bytes_keep (h.ok c hc).b (fun hp ad had hlt => hk _ (hd c hc hp ad had) hlt), (h.ok c hc).o⟩, h.nil⟩
theorem single_good {o n : Int} {c : Cmd} (h : single o n c = 0) (hn : n ≤ 4611686018427387903) : GoodB c.core := by
  obtain ⟨h1, h2, h3⟩ := single_ok h
  have h4 := chk_ok (show chk c.k c.t c.f c.n c.l.length = 0 from h1)
  unfold GoodB Cmd.core
  simp only
  unfold Cmd.w wlen at h2
  rcases h4 with ⟨k1, k2, k3, k4, k5⟩ | ⟨k1, k2, k3, k4, k5⟩
  · rw [if_pos k1] at h2
    have e5 := okE_iff.1 k5
    simp only at e5
    exact .inl ⟨k1, h2.1, e5.1, by omega, List.eq_nil_of_length_eq_zero k2, by omega, by omega⟩
  · rw [if_neg (by omega)] at h2
    exact .inr ⟨k1, h2.1, k2, k3, by omega, by omega⟩

/-- What Tidy returns. -/
def TidyPost (o n : Int) (x y : List Int) (cs : List Cmd) (w : World) (e : Ending) (w' : World) : Prop :=
  ∃ (D' : Array Value) (a : Option Addr) (ds ls : List Cmd) (cap : Nat), e = .returned (.agg D') ∧ DeltaOf D' o n x y (.slice a ds.length cap) ∧ CmdsIn w' a ds cap ∧ cores ds = mergeL (cores ls) ∧ ls.Perm cs ∧ Asc ls ∧ Below w.heap.size w w' ∧ (∀ ad, a = some ad → w.heap.size ≤ ad.block) ∧ ∀ c ∈ ds, 0 < c.l.length → ∀ ad, c.a = some ad → w.heap.size ≤ ad.block

set_option maxRecDepth 100000 in
set_option maxHeartbeats 8000000 in
theorem tidy9_any (D : Array Value) (o n : Int) (x y : List Int) (ca : Option Addr) (cs : List Cmd) (ccap : Nat) (hD : DeltaOf D o n x y (.slice ca cs.length ccap)) (w : World) (h : CmdsIn w ca cs ccap) (hL : cs.length ≤ 1000) (hsm : ∀ c ∈ cs, c.l.length ≤ 1000) (hv : ValidD o n cs) :
    Calls Try.prog 14 #[.agg D] w (TidyPost o n x y cs w) := by
  have hz := zero_delta
  obtain ⟨S, hS⟩ := start2 w (deltaO D) (deltaO zeroDel)
  have hso := dsort_any2 D o n x y ca cs ccap hD S.w (h.W S) (by omega) (fun c hc => by have := hsm c hc; omega)
  have hinf := infoDelta hD
  have hg : ((w.alloc (deltaO D)).alloc (deltaO zeroDel)).heap[w.heap.size]? = some (deltaO D) := heap_old (heap_new w _ rfl) _
  have HGOOD : Hid (∀ ds ls : List Cmd, cores ds = cores ls → ls.Perm cs → (∀ c ∈ ds, GoodB c.core) ∧ ds.length ≤ 1000 ∧ ∀ c ∈ ds, c.l.length ≤ 1000) := Lib.hid fun ds ls h1 h2 => by
    have key : ∀ c ∈ ds, ∃ d ∈ cs, d.core = c.core := fun c hc => by
      have : c.core ∈ cores ls := by rw [← h1]; exact List.mem_map_of_mem (f := Cmd.core) hc
      obtain ⟨d, hd, he⟩ := List.mem_map.1 this
      exact ⟨d, h2.mem_iff.1 hd, he⟩
    have hnb : n ≤ 4611686018427387903 := by have := hv.lens; unfold LensBad at this; omega
    refine ⟨fun c hc => ?_, ?_, fun c hc => ?_⟩
    · obtain ⟨d, hd, he⟩ := key c hc
      rw [← he]
      exact single_good (hv.all d hd) hnb
    · have e1 := cores_len h1
      have e2 := h2.length_eq
      omega
    · obtain ⟨d, hd, he⟩ := key c hc
      have e5 : d.l = c.l := congrArg (fun q : Core8 => q.2.2.2.2) he
      rw [← e5]
      exact hsm d hd
  have HD := Lib.hid hD
  have HS := Lib.hid hS
  obtain ⟨POST, hP⟩ : ∃ P, P = TidyPost o n x y cs w := ⟨_, rfl⟩
  have HP := Lib.hid hP
  rw [← hP]
  clear hD h hL hsm hv hS hP
  go_enter Try.func14, Try.ntmps14
  go_wp2_with (refine wpList_load_row rfl 34 (.tmp 1) rfl w.heap.size rfl 34 _ (0, 0) _ hg Try.underlying34 rfl hinf ?_)
  rw [HS.out]
  clear hg
  refine hso.mono ?_
  rintro e W2 ⟨D2, g2, ds, ls, rfl, hD2, hds, hco, hpe, has, hb2, hge2, hap2⟩
  obtain ⟨s2, rfl⟩ := S.after hb2
  have hfl := field_cmds hD2 s2.w
  obtain ⟨q1, q2, q3⟩ := HGOOD.out ds ls hco hpe
  have hmg := merge9_any (some ⟨g2, 0, none⟩) ds ds.length s2.w hds q1 q2 q3
  have HLS := Lib.hid (And.intro hco (And.intro hpe has))
  clear hso hD2 hds hco hpe has hb2 hge2 hap2 q1 q2 q3
  go_wp2_with fail
  refine hmg.mono ?_
  rintro e W3 ⟨v3, rfl, ⟨R⟩⟩
  obtain ⟨ds3, els, SG, rfl, hco3, hok3, hdat3⟩ := R
  obtain ⟨a3, cap3, rfl, hcs3⟩ := row_cmds (W := SG.w) (base := s2.w.heap.size) (n := ds3.length) (v := v3) (cs := ds3) SG.own rfl (fun c hc => by
    obtain ⟨⟨h1, h2, h3, h4⟩, h5, h6, _⟩ := hok3 c hc
    exact ⟨h1, h2, h3, h4, (SG.el _ h6).1, h5⟩)
  have hrb : 0 < ds3.length → ∀ ad, a3 = some ad → s2.w.heap.size ≤ ad.block := fun _ ad had => (SG.own.lt ad.block (by rw [had]; rfl)).1
  have hdb : ∀ c ∈ ds3, 0 < c.l.length → ∀ ad, c.a = some ad → s2.w.heap.size ≤ ad.block := fun c hc => (hok3 c hc).2.2.2
  have hsz9 : w.heap.size ≤ s2.w.heap.size := s2.below.size
  have HRB : Hid (∀ ad, a3 = some ad → w.heap.size ≤ ad.block) := Lib.hid fun ad had => by
    have := (SG.own.lt ad.block (by rw [had]; rfl)).1
    omega
  have HDB : Hid (∀ c ∈ ds3, 0 < c.l.length → ∀ ad, c.a = some ad → w.heap.size ≤ ad.block) := Lib.hid fun c hc hl ad had => by
    have := hdb c hc hl ad had
    omega
  obtain ⟨s3, h3⟩ := s2.after SG.but.below
  rw [h3] at hcs3 ⊢
  have hsz2 : w.heap.size + 1 < s2.w.heap.size := (Array.getElem?_eq_some_iff.1 (s2.blocks (w.heap.size + 1, deltaO zeroDel) (by simp))).1
  have hb0 := s3.blocks (w.heap.size, deltaO D) (by simp)
  have hb1 := s3.blocks (w.heap.size + 1, deltaO zeroDel) (by simp)
  dsimp only at hb0 hb1
  have c66 : s3.w.cell? ⟨w.heap.size, 66, none⟩ = some (.slice ca cs.length ccap) := (cell_of hb0 66).trans HD.out.c66
  have f66 : s3.w.frozen? ⟨w.heap.size, 66, none⟩ = false := free_of hb0 66
  have hD3 := HD.out.set (.slice a3 ds3.length cap3)
  obtain ⟨D3, hD3e⟩ : ∃ D3, D3 = D.setIfInBounds 66 (.slice a3 ds3.length cap3) := ⟨_, rfl⟩
  rw [← hD3e] at hD3
  have hg4 : (s3.w.setCell ⟨w.heap.size, 66, none⟩ (.slice a3 ds3.length cap3)).heap[w.heap.size]? = some (deltaO D3) := by rw [hD3e]; exact heap_setCell_same _ _ _ _ _ _ hb0
  have hg5 : (s3.w.setCell ⟨w.heap.size, 66, none⟩ (.slice a3 ds3.length cap3)).heap[w.heap.size + 1]? = some (deltaO zeroDel) := (heap_setCell_other _ _ _ _ (show w.heap.size + 1 ≠ w.heap.size by omega)).trans hb1
  have hinf3 := infoDelta hD3
  have hone3 := hD3.one rfl
  have hsz3 : zeroDel.size = D3.size := by rw [zeroDel_of.size, hD3.size]
  have hbelow : Below w.heap.size w ((s3.w.setCell ⟨w.heap.size, 66, none⟩ (.slice a3 ds3.length cap3)).setRow (w.heap.size + 1) D3) := below_setRow (s3.below.setCell (p := ⟨w.heap.size, 66, none⟩) (Nat.le_refl _) _) (by omega) _
  have hkeep : CmdsIn ((s3.w.setCell ⟨w.heap.size, 66, none⟩ (.slice a3 ds3.length cap3)).setRow (w.heap.size + 1) D3) a3 ds3 cap3 := hcs3.keep9 (B := s2.w.heap.size) (fun k hk _ => (setRow_other _ _ _ _ (show k ≠ w.heap.size + 1 by omega)).trans (heap_setCell_other _ _ _ _ (show k ≠ w.heap.size by omega))) hrb hdb
  have HQ : Hid (POST (.returned (.agg D3)) ((s3.w.setCell ⟨w.heap.size, 66, none⟩ (.slice a3 ds3.length cap3)).setRow (w.heap.size + 1) D3)) := Lib.hid (by
    rw [HP.out]
    exact ⟨D3, a3, ds3, ls, cap3, rfl, hD3, hkeep, by rw [hco3, HLS.out.1], HLS.out.2.1, HLS.out.2.2, hbelow, HRB.out, HDB.out⟩)
  clear hmg hco3 hok3 hdat3 hcs3 hrb hdb h3 hb0 hb1 hD3 hbelow hkeep hfl hD3e
  go_wp2_with (first
    | (refine wpList_load_row rfl 34 (.tmp 1) rfl w.heap.size rfl 34 _ (0, 0) _ hg4 Try.underlying34 rfl hinf3 ?_)
    | (refine wpList_store_rowTo rfl 34 (.tmp 2) (.tmp 8) rfl rfl (w.heap.size + 1) D3 rfl rfl 34 zeroDel hg5 hinf3 hsz3 hone3 ?_))
  refine bodyPost_ret (v := .agg D3) ?_ rfl HQ.out
  exact results_cell_row Try.results14 _ _ (w.heap.size + 1) 34 _ (0, 0) _ rfl (setRow_heap _ _ _ _ _ _ hg5) Try.underlying34 rfl hinf3
end Go.Proofs.Ytgmjppjgbalapaa

/- Equivalent of package tidy. -/
namespace Go.Proofs.Ytgmjppjgbalapaa
open Go.RowKit Go.Proofs.Ytgmjppjgbalapaa.Plain01
set_option linter.unusedVariables false
set_option linter.unusedSimpArgs false

/-- The commands in ascending order. -/
def srt (cs : List Cmd) : List Cmd := cs.mergeSort (fun a b => decide (a.t ≤ b.t))
theorem srt_perm (cs : List Cmd) : (srt cs).Perm cs := List.mergeSort_perm _ _
theorem srt_asc (cs : List Cmd) : Asc (srt cs) := by
  have := List.pairwise_mergeSort (le := fun (a b : Cmd) => decide (a.t ≤ b.t)) (by intro a b c; simp; omega) (by intro a b; simp; omega) cs
  unfold Asc srt
  exact this.imp (fun h => by simpa using h)
theorem srt_eq {o n : Int} {cs ls : List Cmd} (hv : ValidD o n cs) (h1 : ls.Perm cs) (h2 : Asc ls) : ls = srt cs := sorted_same hv h1 h2 (srt_perm cs) (srt_asc cs)
/-- The commands of the canonical form. -/
def canonC (cs : List Cmd) : List Core8 := mergeL (cores (srt cs))
theorem mergeL_good {L : List Core8} (h : ∀ c ∈ L, GoodB c) : ∀ c ∈ mergeL L, GoodB c := by
  cases L with
  | nil => intro c hc; cases hc
  | cons a L => exact mergeF_good a L h
theorem valid_good {o n : Int} {cs : List Cmd} (hv : ValidD o n cs) : ∀ c ∈ cs, GoodB c.core := fun c hc => single_good (hv.all c hc) (by have := hv.lens; unfold LensBad at this; omega)
theorem canon_good {o n : Int} {cs : List Cmd} (hv : ValidD o n cs) : ∀ c ∈ canonC cs, GoodB c := mergeL_good (fun c hc => by
  obtain ⟨d, hd, rfl⟩ := List.mem_map.1 hc
  exact valid_good hv d ((srt_perm cs).mem_iff.1 hd))
theorem canon_cmds {o n : Int} {cs ds : List Cmd} (hv : ValidD o n cs) (h : cores ds = canonC cs) : ∀ c ∈ ds, GoodB c.core := fun c hc => canon_good hv _ (by rw [← h]; exact List.mem_map_of_mem (f := Cmd.core) hc)

/-- A delta in canonical form. -/
def IsTid (o n : Int) (x y : List Int) (L : List Core8) : Value → World → Prop := fun v w => ∃ (D : Array Value) (a : Option Addr) (ds : List Cmd) (cap : Nat), v = .agg D ∧ DeltaOf D o n x y (.slice a ds.length cap) ∧ CmdsIn w a ds cap ∧ cores ds = L
theorem stable_tid (o n : Int) (x y : List Int) (L : List Core8) : Stable (fun W W' => Below W.heap.size W W') (IsTid o n x y L) := fun v w w' ⟨D, a, ds, cap, h1, h2, h3, h4⟩ hE => ⟨D, a, ds, cap, h1, h2, h3.below hE, h4⟩
def IsTidS (L : List Core8) : Value → World → Prop := fun v w => ∃ (a : Option Addr) (ds : List Cmd) (cap : Nat), v = .slice a ds.length cap ∧ CmdsIn w a ds cap ∧ cores ds = L
theorem stable_tidS (L : List Core8) : Stable (fun W W' => Below W.heap.size W W') (IsTidS L) := fun v w w' ⟨a, ds, cap, h1, h2, h3⟩ hE => ⟨a, ds, cap, h1, h2.below hE, h3⟩
theorem tidy9_is (D : Array Value) (o n : Int) (x y : List Int) (ca : Option Addr) (cs : List Cmd) (ccap : Nat) (hD : DeltaOf D o n x y (.slice ca cs.length ccap)) (w : World) (h : CmdsIn w ca cs ccap) (hL : cs.length ≤ 1000) (hsm : ∀ c ∈ cs, c.l.length ≤ 1000) (hv : ValidD o n cs) :
    Calls Try.prog 14 #[.agg D] w (fun e w' => ∃ v, e = .returned v ∧ IsTid o n x y (canonC cs) v w' ∧ Below w.heap.size w w') :=
  (tidy9_any D o n x y ca cs ccap hD w h hL hsm hv).mono fun e w' ⟨D', a, ds, ls, cap, he, h1, h2, h3, h4, h5, h6, _⟩ => ⟨_, he, ⟨D', a, ds, cap, rfl, h1, h2, by rw [h3, srt_eq hv h4 h5]; rfl⟩, h6⟩

set_option maxRecDepth 100000 in
set_option maxHeartbeats 8000000 in
theorem equiv9_any (D E : Array Value) (o n o' n' : Int) (x y x' y' : List Int) (ca da : Option Addr) (cs ds : List Cmd) (ccap dcap : Nat) (hD : DeltaOf D o n x y (.slice ca cs.length ccap)) (hE : DeltaOf E o' n' x' y' (.slice da ds.length dcap)) (w : World) (h1 : CmdsIn w ca cs ccap) (h2 : CmdsIn w da ds dcap)
    (hL1 : cs.length ≤ 1000) (hL2 : ds.length ≤ 1000) (hs1 : ∀ c ∈ cs, c.l.length ≤ 1000) (hs2 : ∀ c ∈ ds, c.l.length ≤ 1000) (hv1 : ValidD o n cs) (hv2 : ValidD o' n' ds) :
    Calls Try.prog 18 #[.agg D, .agg E] w (Gives (.bool (decide (o = o' ∧ n = n' ∧ canonC cs = canonC ds))) w) := by
  obtain ⟨S, hS⟩ := start2 w (deltaO D) (deltaO E)
  have HT1 := Lib.hid (fun (W : World) (hW : Below w.heap.size w W) => tidy9_is D o n x y ca cs ccap hD W (h1.below hW) hL1 hs1 hv1)
  have HT2 := Lib.hid (fun (W : World) (hW : Below w.heap.size w W) => tidy9_is E o' n' x' y' da ds dcap hE W (h2.below hW) hL2 hs2 hv2)
  have HEQ : Hid (∀ (a b : Option Addr) (ls ms : List Cmd) (c1 c2 : Nat) (W : World), CmdsIn W a ls c1 → CmdsIn W b ms c2 → cores ls = canonC cs → cores ms = canonC ds → Calls Try.prog 40 #[.slice a ls.length c1, .slice b ms.length c2, .func (.func 41) #[] #[]] W (Gives (.bool (decide (canonC cs = canonC ds))) W)) := Lib.hid fun a b ls ms c1 c2 W q1 q2 q3 q4 => by
    have := equalFunc9_any a b ls ms c1 c2 W q1 q2 (canon_cmds hv1 q3) (canon_cmds hv2 q4)
    rwa [q3, q4] at this
  have HD0 := Lib.hid (fun (W : World) (hW : W.heap[w.heap.size]? = some (deltaO D)) => (show W.cell? ⟨w.heap.size, 0, none⟩ = some (.int .i64 o) ∧ W.cell? ⟨w.heap.size, 1, none⟩ = some (.int .i64 n) from ⟨(cell_of hW 0).trans hD.c0, (cell_of hW 1).trans hD.c1⟩))
  have HE0 := Lib.hid (fun (W : World) (hW : W.heap[w.heap.size + 1]? = some (deltaO E)) => (show W.cell? ⟨w.heap.size + 1, 0, none⟩ = some (.int .i64 o') ∧ W.cell? ⟨w.heap.size + 1, 1, none⟩ = some (.int .i64 n') from ⟨(cell_of hW 0).trans hE.c0, (cell_of hW 1).trans hE.c1⟩))
  have HLD := Lib.hid (fun (W : World) (hW : W.heap[w.heap.size]? = some (deltaO D)) => load_delta hD hW)
  have HLE := Lib.hid (fun (W : World) (hW : W.heap[w.heap.size + 1]? = some (deltaO E)) => load_delta hE hW)
  have HS := Lib.hid hS
  generalize canonC cs = L1 at *
  generalize canonC ds = L2 at *
  obtain ⟨POST, hP⟩ : ∃ P, P = Gives (.bool (decide (o = o' ∧ n = n' ∧ L1 = L2))) w := ⟨_, rfl⟩
  have HQ : Hid (∀ r : Bool, (r = true ↔ o = o' ∧ n = n' ∧ L1 = L2) → ∀ W, Below w.heap.size w W → POST (.returned (.bool r)) W) := Lib.hid fun r hr W hW => by
    rw [hP, show decide (o = o' ∧ n = n' ∧ L1 = L2) = r by rw [Bool.eq_iff_iff]; simp [hr]]
    exact ⟨rfl, hW⟩
  rw [← hP]
  clear hS hP hD hE h1 h2 hL1 hL2 hs1 hs2 hv1 hv2
  have hcell : ∀ s : HeldW w [(w.heap.size + 1, deltaO E), (w.heap.size, deltaO D)], (s.w.cell? ⟨w.heap.size, 0, none⟩ = some (.int .i64 o) ∧ s.w.cell? ⟨w.heap.size, 1, none⟩ = some (.int .i64 n)) ∧ s.w.cell? ⟨w.heap.size + 1, 0, none⟩ = some (.int .i64 o') ∧ s.w.cell? ⟨w.heap.size + 1, 1, none⟩ = some (.int .i64 n') := fun s =>
    ⟨HD0.out s.w (s.blocks (w.heap.size, deltaO D) (by simp)), HE0.out s.w (s.blocks (w.heap.size + 1, deltaO E) (by simp))⟩
  by_cases h1 : o = o'
  · subst h1
    by_cases h2 : n = n'
    · subst h2
      have e1 : (o == o) = true := by simp
      have e2 : (n == n) = true := by simp
      clear hcell
      go_enter Try.func18, Try.ntmps18
      go_wp2_with fail
      rw [HS.out]
      have hgd := S.blocks (w.heap.size, deltaO D) (by simp)
      have hge := S.blocks (w.heap.size + 1, deltaO E) (by simp)
      have HGD := Lib.hid (fun (W : World) (hW : Below S.w.heap.size S.w W) => heap_below hgd hW)
      have HGE := Lib.hid (fun (W : World) (hW : Below S.w.heap.size S.w W) => heap_below hge hW)
      have HBW := Lib.hid (fun (W : World) (hW : Below S.w.heap.size S.w W) => S.below.trans (hW.mono S.below.size))
      clear hgd hge
      refine wp_region_loose
        [IsV (.pointer (some ⟨w.heap.size, 0, none⟩)), IsV (.int .i64 o), IsV (.pointer (some ⟨w.heap.size + 1, 0, none⟩)), IsV (.int .i64 o), IsV (.bool true), IsV (.bool true), IsV (.pointer (some ⟨w.heap.size, 1, none⟩)), IsV (.int .i64 n), IsV (.pointer (some ⟨w.heap.size + 1, 1, none⟩)), IsV (.int .i64 n), IsV (.bool true), IsV (.bool true), IsV (.bool true), IsV (.agg D), IsTid o n x y L1, IsTidS L1, IsV (.agg E), IsTid o n x' y' L2, IsTidS L2, IsV (.bool (decide (L1 = L2))), IsV (.bool (decide (L1 = L2))), IsV (.bool (decide (L1 = L2)))]
        [⟨5, [], [2]⟩, ⟨6, [(0, 5)], []⟩, ⟨7, [], [3]⟩, ⟨8, [(2, 7)], []⟩, ⟨9, [(1, 6), (3, 8)], []⟩, ⟨10, [(4, 9)], []⟩, ⟨11, [(5, 10)], [2]⟩, ⟨12, [(5, 10), (6, 11)], []⟩, ⟨13, [(5, 10)], [3]⟩, ⟨14, [(5, 10), (8, 13)], []⟩, ⟨15, [(5, 10), (7, 12), (9, 14)], []⟩, ⟨16, [(5, 10), (10, 15)], []⟩, ⟨17, [(11, 16)], []⟩, ⟨18, [(12, 17)], [2]⟩, ⟨19, [(12, 17), (13, 18)], []⟩, ⟨20, [(12, 17), (14, 19)], []⟩, ⟨21, [(12, 17)], [3]⟩, ⟨22, [(12, 17), (16, 21)], []⟩, ⟨23, [(12, 17), (17, 22)], []⟩, ⟨24, [(12, 17), (15, 20), (18, 23)], []⟩, ⟨25, [(12, 17), (19, 24)], []⟩, ⟨4, [(20, 25)], []⟩]
        (fun W => Below S.w.heap.size S.w W) (fun W W' => Below W.heap.size W W') (by kernel_rfl) (by kernel_rfl) rfl rfl (Below.refl _ S.w).drew ?_
        ⟨?_, ?_, ?_, ?_, ?_, ?_, ?_, ?_, ?_, ?_, ?_, ?_, ?_, ?_, ?_, ?_, ?_, ?_, ?_, ?_, ?_, ?_, trivial⟩ ?_
      · repeat (first | (intro _ h; cases h; done) | refine List.forall_mem_cons.2 ⟨stable_V _ _, ?_⟩ | refine List.forall_mem_cons.2 ⟨stable_tid _ _ _ _ _, ?_⟩ | refine List.forall_mem_cons.2 ⟨stable_tidS _, ?_⟩)
      · intro A W hC hd hx
        have hk : ∀ v, A.eval (.const v) = v := fun _ => rfl
        have hy0 : A.eval (.tmp 2) = .pointer (some ⟨w.heap.size, 0, none⟩) := hx 2 (by simp)
        clear hd
        generalize A.eval = ρ at hk hy0 ⊢
        simp [go_sem, looseUpon, factOf, hk, hy0]
        exact ⟨hC, Below.refl _ _⟩
      · intro A W hC hd hx
        have hk : ∀ v, A.eval (.const v) = v := fun _ => rfl
        have c0 := (HD0.out W (HGD.out W hC)).1
        simp [factOf] at hd
        generalize A.eval = ρ at hd hk ⊢
        simp [go_sem, looseUpon, factOf, hd, hk, c0]
        exact ⟨hC, Below.refl _ _⟩
      · intro A W hC hd hx
        have hk : ∀ v, A.eval (.const v) = v := fun _ => rfl
        have hy0 : A.eval (.tmp 3) = .pointer (some ⟨w.heap.size + 1, 0, none⟩) := hx 3 (by simp)
        clear hd
        generalize A.eval = ρ at hk hy0 ⊢
        simp [go_sem, looseUpon, factOf, hk, hy0]
        exact ⟨hC, Below.refl _ _⟩
      · intro A W hC hd hx
        have hk : ∀ v, A.eval (.const v) = v := fun _ => rfl
        have c0 := (HE0.out W (HGE.out W hC)).1
        simp [factOf] at hd
        generalize A.eval = ρ at hd hk ⊢
        simp [go_sem, looseUpon, factOf, hd, hk, c0]
        exact ⟨hC, Below.refl _ _⟩
      · intro A W hC hd hx
        have hk : ∀ v, A.eval (.const v) = v := fun _ => rfl
        simp [factOf] at hd
        generalize A.eval = ρ at hd hk ⊢
        simp [go_sem, looseUpon, factOf, hd, hk]
        exact ⟨hC, Below.refl _ _⟩
      · intro A W hC hd hx
        have hk : ∀ v, A.eval (.const v) = v := fun _ => rfl
        simp [factOf] at hd
        generalize A.eval = ρ at hd hk ⊢
        simp [go_sem, looseUpon, factOf, hd, hk]
        exact ⟨hC, Below.refl _ _⟩
      · intro A W hC hd hx
        have hk : ∀ v, A.eval (.const v) = v := fun _ => rfl
        have hy0 : A.eval (.tmp 2) = .pointer (some ⟨w.heap.size, 0, none⟩) := hx 2 (by simp)
        simp [factOf] at hd
        generalize A.eval = ρ at hd hk hy0 ⊢
        simp [go_sem, looseUpon, factOf, hd, hk, hy0]
        exact ⟨hC, Below.refl _ _⟩
      · intro A W hC hd hx
        have hk : ∀ v, A.eval (.const v) = v := fun _ => rfl
        have c0 := (HD0.out W (HGD.out W hC)).2
        simp [factOf] at hd
        generalize A.eval = ρ at hd hk ⊢
        simp [go_sem, looseUpon, factOf, hd, hk, c0]
        exact ⟨hC, Below.refl _ _⟩
      · intro A W hC hd hx
        have hk : ∀ v, A.eval (.const v) = v := fun _ => rfl
        have hy0 : A.eval (.tmp 3) = .pointer (some ⟨w.heap.size + 1, 0, none⟩) := hx 3 (by simp)
        simp [factOf] at hd
        generalize A.eval = ρ at hd hk hy0 ⊢
        simp [go_sem, looseUpon, factOf, hd, hk, hy0]
        exact ⟨hC, Below.refl _ _⟩
      · intro A W hC hd hx
        have hk : ∀ v, A.eval (.const v) = v := fun _ => rfl
        have c0 := (HE0.out W (HGE.out W hC)).2
        simp [factOf] at hd
        generalize A.eval = ρ at hd hk ⊢
        simp [go_sem, looseUpon, factOf, hd, hk, c0]
        exact ⟨hC, Below.refl _ _⟩
      · intro A W hC hd hx
        have hk : ∀ v, A.eval (.const v) = v := fun _ => rfl
        simp [factOf] at hd
        generalize A.eval = ρ at hd hk ⊢
        simp [go_sem, looseUpon, factOf, hd, hk]
        exact ⟨hC, Below.refl _ _⟩
      · intro A W hC hd hx
        have hk : ∀ v, A.eval (.const v) = v := fun _ => rfl
        simp [factOf] at hd
        generalize A.eval = ρ at hd hk ⊢
        simp [go_sem, looseUpon, factOf, hd, hk]
        exact ⟨hC, Below.refl _ _⟩
      · intro A W hC hd hx
        have hk : ∀ v, A.eval (.const v) = v := fun _ => rfl
        simp [factOf] at hd
        generalize A.eval = ρ at hd hk ⊢
        simp [go_sem, looseUpon, factOf, hd, hk]
        exact ⟨hC, Below.refl _ _⟩
      · intro A W hC hd hx
        have hy0 : A.eval (.tmp 2) = .pointer (some ⟨w.heap.size, 0, none⟩) := hx 2 (by simp)
        have hld := HLD.out W (HGD.out W hC)
        simp [factOf] at hd
        refine ⟨fun g hg => (by cases hg; simp [hd]), ?_⟩
        generalize A.eval = ρ at hd hy0 ⊢
        simp [execOp, hy0, hld, looseUpon, factOf]
        exact ⟨hC, Below.refl _ _⟩
      · intro A W hC hd hx
        simp [factOf] at hd
        obtain ⟨hd0, hd1⟩ := hd
        refine ⟨fun g hg => (by cases hg; simp [hd0]), ?_⟩
        refine loose_call rfl Try.func14 (by kernel_rfl) (by kernel_rfl) ?_
        simp only [List.map_toArray, List.map_cons, List.map_nil, hd1]
        refine (HT1.out W (HBW.out W hC)).mono ?_
        rintro e' W' ⟨v', rfl, ht, h4⟩
        exact ⟨_, rfl, ht, hC.trans (h4.mono hC.size), h4⟩
      · intro A W hC hd hx
        simp [factOf] at hd
        obtain ⟨hd0, D', a', ls, cap', hd1, hD', hls, hco⟩ := hd
        have hfl := field_cmds hD' W
        refine ⟨fun g hg => (by cases hg; simp [hd0]), ?_⟩
        generalize A.eval = ρ at hd0 hd1 ⊢
        simp [execOp, hd1, hfl, looseUpon, factOf]
        exact ⟨⟨a', ls, cap', rfl, hls, hco⟩, hC, Below.refl _ _⟩
      · intro A W hC hd hx
        have hy0 : A.eval (.tmp 3) = .pointer (some ⟨w.heap.size + 1, 0, none⟩) := hx 3 (by simp)
        have hld := HLE.out W (HGE.out W hC)
        simp [factOf] at hd
        refine ⟨fun g hg => (by cases hg; simp [hd]), ?_⟩
        generalize A.eval = ρ at hd hy0 ⊢
        simp [execOp, hy0, hld, looseUpon, factOf]
        exact ⟨hC, Below.refl _ _⟩
      · intro A W hC hd hx
        simp [factOf] at hd
        obtain ⟨hd0, hd1⟩ := hd
        refine ⟨fun g hg => (by cases hg; simp [hd0]), ?_⟩
        refine loose_call rfl Try.func14 (by kernel_rfl) (by kernel_rfl) ?_
        simp only [List.map_toArray, List.map_cons, List.map_nil, hd1]
        refine (HT2.out W (HBW.out W hC)).mono ?_
        rintro e' W' ⟨v', rfl, ht, h4⟩
        exact ⟨_, rfl, ht, hC.trans (h4.mono hC.size), h4⟩
      · intro A W hC hd hx
        simp [factOf] at hd
        obtain ⟨hd0, D', a', ls, cap', hd1, hD', hls, hco⟩ := hd
        have hfl := field_cmds hD' W
        refine ⟨fun g hg => (by cases hg; simp [hd0]), ?_⟩
        generalize A.eval = ρ at hd0 hd1 ⊢
        simp [execOp, hd1, hfl, looseUpon, factOf]
        exact ⟨⟨a', ls, cap', rfl, hls, hco⟩, hC, Below.refl _ _⟩
      · intro A W hC hd hx
        simp [factOf] at hd
        obtain ⟨hd0, ⟨a1, l1, c1, hd1, hl1, hc1⟩, a2, l2, c2, hd2, hl2, hc2⟩ := hd
        refine ⟨fun g hg => (by cases hg; simp [hd0]), ?_⟩
        refine loose_call rfl Try.func40 (by kernel_rfl) (by kernel_rfl) ?_
        simp only [List.map_toArray, List.map_cons, List.map_nil, hd1, hd2]
        show Calls Try.prog 40 #[.slice a1 l1.length c1, .slice a2 l2.length c2, .func (.func 41) #[] #[]] W _
        refine (HEQ.out a1 a2 l1 l2 c1 c2 W hl1 hl2 hc1 hc2).mono ?_
        rintro e' W' ⟨rfl, h4⟩
        exact ⟨_, rfl, rfl, hC.trans (h4.mono hC.size), h4⟩
      · intro A W hC hd hx
        have hk : ∀ v, A.eval (.const v) = v := fun _ => rfl
        simp [factOf] at hd
        generalize A.eval = ρ at hd hk ⊢
        simp [go_sem, looseUpon, factOf, hd, hk]
        exact ⟨hC, Below.refl _ _⟩
      · intro A W hC hd hx
        have hk : ∀ v, A.eval (.const v) = v := fun _ => rfl
        simp [factOf] at hd
        generalize A.eval = ρ at hd hk ⊢
        simp [go_sem, looseUpon, factOf, hd, hk]
        exact ⟨hC, Below.refl _ _⟩
      intro W hC
      simp only [ends]
      rintro _ rfl _ rfl _ rfl _ rfl _ rfl _ rfl _ rfl _ rfl _ rfl _ rfl _ rfl _ rfl _ rfl _ rfl _ - _ - _ rfl _ - _ - _ rfl _ rfl _ rfl
      simp only [putAll, List.zip_cons_cons, List.zip_nil_left, List.foldl_cons, List.foldl_nil, Act.put, List.setIfInBounds_toArray, List.set_cons_succ, List.set_cons_zero]
      have HR := Lib.hid (HQ.out (decide (L1 = L2)) (by simp) W (HBW.out W hC))
      clear hC HGD HGE HBW
      go_wp2
      exact HR.out
    · have e1 : (o == o) = true := by simp
      have e2 : (n == n') = false := by simpa using h2
      have HN := Lib.hid h2
      have d0 := fun s : HeldW w [(w.heap.size + 1, deltaO E), (w.heap.size, deltaO D)] => (hcell s).1.1
      have d1 := fun s : HeldW w [(w.heap.size + 1, deltaO E), (w.heap.size, deltaO D)] => (hcell s).1.2
      have d2 := fun s : HeldW w [(w.heap.size + 1, deltaO E), (w.heap.size, deltaO D)] => (hcell s).2.1
      have d3 := fun s : HeldW w [(w.heap.size + 1, deltaO E), (w.heap.size, deltaO D)] => (hcell s).2.2
      clear h2 hcell
      go_enter Try.func18, Try.ntmps18
      go_wp2_with fail
      rw [HS.out]
      refine wp_region_class w _ (by kernel_rfl) (by kernel_rfl) S.below S.blocks (fun hne => ?_)
      repeat (go_big_quiet_step (fail))
      refine wpQuiet_nil ?_
      rintro _ ⟨s3, rfl⟩
      have HR := Lib.hid (HQ.out false (by simp [HN.out]) s3.w s3.below)
      clear hne d0 d1 d2 d3
      go_wp2
      exact HR.out
  · have e1 : (o == o') = false := by simpa using h1
    have HN := Lib.hid h1
    have d0 := fun s : HeldW w [(w.heap.size + 1, deltaO E), (w.heap.size, deltaO D)] => (hcell s).1.1
    have d2 := fun s : HeldW w [(w.heap.size + 1, deltaO E), (w.heap.size, deltaO D)] => (hcell s).2.1
    clear h1 hcell
    go_enter Try.func18, Try.ntmps18
    go_wp2_with fail
    rw [HS.out]
    refine wp_region_class w _ (by kernel_rfl) (by kernel_rfl) S.below S.blocks (fun hne => ?_)
    repeat (go_big_quiet_step (fail))
    refine wpQuiet_nil ?_
    rintro _ ⟨s3, rfl⟩
    have HR := Lib.hid (HQ.out false (by simp [HN.out]) s3.w s3.below)
    clear hne d0 d2
    go_wp2
    exact HR.out
end Go.Proofs.Ytgmjppjgbalapaa
