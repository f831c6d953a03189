import Derived.Great.BuildSlice
import Derived.Test.YtojipgeclofjmaaE09a22
import Derived.Test.YtojipgeclofjmaaE09a17
import Derived.Test.YtojipgeclofjmaaE09a21
import Derived.Test.YtojipgeclofjmaaE09a14
import Derived.BigQuiet
import Derived.Test.YtojipgeclofjmaaE09a20
import Derived.Test.YtojipgeclofjmaaE09a9
import Derived.Test.YtojipgeclofjmaaE09a15
import Derived.Test.YtojipgeclofjmaaE09a19
/- newHash of package patch. -/
namespace Go.Proofs.Ytojipgeclofjmaa
open Go.RowKit
set_option linter.unusedVariables false
set_option linter.unusedSimpArgs false

set_option maxRecDepth 100000 in
set_option maxHeartbeats 4000000 in
theorem field_cmds {D : Array Value} {o n : Int} {x y : List Int} {a : Option Addr} {m c : Nat} (h : DeltaOf D o n x y (.slice a m c)) (W : World) : (Instr.field 25 (.agg D) 4).run Try.prog W = .ok (.slice a m c) W := by
  obtain ⟨rfl, hx, hy⟩ := h
  obtain ⟨a0, at0, rfl, ah0⟩ := uncons8 hx
  obtain ⟨a1, at1, rfl, ah1⟩ := uncons8 ah0
  obtain ⟨a2, at2, rfl, ah2⟩ := uncons8 ah1
  obtain ⟨a3, at3, rfl, ah3⟩ := uncons8 ah2
  obtain ⟨a4, at4, rfl, ah4⟩ := uncons8 ah3
  obtain ⟨a5, at5, rfl, ah5⟩ := uncons8 ah4
  obtain ⟨a6, at6, rfl, ah6⟩ := uncons8 ah5
  obtain ⟨a7, at7, rfl, ah7⟩ := uncons8 ah6
  obtain ⟨a8, at8, rfl, ah8⟩ := uncons8 ah7
  obtain ⟨a9, at9, rfl, ah9⟩ := uncons8 ah8
  obtain ⟨a10, at10, rfl, ah10⟩ := uncons8 ah9
  obtain ⟨a11, at11, rfl, ah11⟩ := uncons8 ah10
  obtain ⟨a12, at12, rfl, ah12⟩ := uncons8 ah11
  obtain ⟨a13, at13, rfl, ah13⟩ := uncons8 ah12
  obtain ⟨a14, at14, rfl, ah14⟩ := uncons8 ah13
  obtain ⟨a15, at15, rfl, ah15⟩ := uncons8 ah14
  obtain ⟨a16, at16, rfl, ah16⟩ := uncons8 ah15
  obtain ⟨a17, at17, rfl, ah17⟩ := uncons8 ah16
  obtain ⟨a18, at18, rfl, ah18⟩ := uncons8 ah17
  obtain ⟨a19, at19, rfl, ah19⟩ := uncons8 ah18
  obtain ⟨a20, at20, rfl, ah20⟩ := uncons8 ah19
  obtain ⟨a21, at21, rfl, ah21⟩ := uncons8 ah20
  obtain ⟨a22, at22, rfl, ah22⟩ := uncons8 ah21
  obtain ⟨a23, at23, rfl, ah23⟩ := uncons8 ah22
  obtain ⟨a24, at24, rfl, ah24⟩ := uncons8 ah23
  obtain ⟨a25, at25, rfl, ah25⟩ := uncons8 ah24
  obtain ⟨a26, at26, rfl, ah26⟩ := uncons8 ah25
  obtain ⟨a27, at27, rfl, ah27⟩ := uncons8 ah26
  obtain ⟨a28, at28, rfl, ah28⟩ := uncons8 ah27
  obtain ⟨a29, at29, rfl, ah29⟩ := uncons8 ah28
  obtain ⟨a30, at30, rfl, ah30⟩ := uncons8 ah29
  obtain ⟨a31, at31, rfl, ah31⟩ := uncons8 ah30
  obtain rfl := List.eq_nil_of_length_eq_zero ah31
  obtain ⟨b0, bt0, rfl, bh0⟩ := uncons8 hy
  obtain ⟨b1, bt1, rfl, bh1⟩ := uncons8 bh0
  obtain ⟨b2, bt2, rfl, bh2⟩ := uncons8 bh1
  obtain ⟨b3, bt3, rfl, bh3⟩ := uncons8 bh2
  obtain ⟨b4, bt4, rfl, bh4⟩ := uncons8 bh3
  obtain ⟨b5, bt5, rfl, bh5⟩ := uncons8 bh4
  obtain ⟨b6, bt6, rfl, bh6⟩ := uncons8 bh5
  obtain ⟨b7, bt7, rfl, bh7⟩ := uncons8 bh6
  obtain ⟨b8, bt8, rfl, bh8⟩ := uncons8 bh7
  obtain ⟨b9, bt9, rfl, bh9⟩ := uncons8 bh8
  obtain ⟨b10, bt10, rfl, bh10⟩ := uncons8 bh9
  obtain ⟨b11, bt11, rfl, bh11⟩ := uncons8 bh10
  obtain ⟨b12, bt12, rfl, bh12⟩ := uncons8 bh11
  obtain ⟨b13, bt13, rfl, bh13⟩ := uncons8 bh12
  obtain ⟨b14, bt14, rfl, bh14⟩ := uncons8 bh13
  obtain ⟨b15, bt15, rfl, bh15⟩ := uncons8 bh14
  obtain ⟨b16, bt16, rfl, bh16⟩ := uncons8 bh15
  obtain ⟨b17, bt17, rfl, bh17⟩ := uncons8 bh16
  obtain ⟨b18, bt18, rfl, bh18⟩ := uncons8 bh17
  obtain ⟨b19, bt19, rfl, bh19⟩ := uncons8 bh18
  obtain ⟨b20, bt20, rfl, bh20⟩ := uncons8 bh19
  obtain ⟨b21, bt21, rfl, bh21⟩ := uncons8 bh20
  obtain ⟨b22, bt22, rfl, bh22⟩ := uncons8 bh21
  obtain ⟨b23, bt23, rfl, bh23⟩ := uncons8 bh22
  obtain ⟨b24, bt24, rfl, bh24⟩ := uncons8 bh23
  obtain ⟨b25, bt25, rfl, bh25⟩ := uncons8 bh24
  obtain ⟨b26, bt26, rfl, bh26⟩ := uncons8 bh25
  obtain ⟨b27, bt27, rfl, bh27⟩ := uncons8 bh26
  obtain ⟨b28, bt28, rfl, bh28⟩ := uncons8 bh27
  obtain ⟨b29, bt29, rfl, bh29⟩ := uncons8 bh28
  obtain ⟨b30, bt30, rfl, bh30⟩ := uncons8 bh29
  obtain ⟨b31, bt31, rfl, bh31⟩ := uncons8 bh30
  obtain rfl := List.eq_nil_of_length_eq_zero bh31
  kernel_rfl

theorem add_block8 (ad : Addr) (n : Nat) : (ad.add n).block = ad.block := by unfold Addr.add; split <;> rfl
theorem sl8_where {a : Option Addr} {cap f : Nat} : ∀ ad, slA8 a cap f = some ad → ∃ ad', a = some ad' ∧ ad.block = ad'.block := by
  intro ad h
  unfold slA8 at h
  split at h
  · exact ⟨ad, h, rfl⟩
  · obtain ⟨ad', ha, rfl⟩ := Option.map_eq_some_iff.1 h
    exact ⟨ad', ha, add_block8 _ _⟩
theorem cut_where {a Q : Option Addr} {L cap n : Nat} (w : World) (hn : n ≤ L) (hL : L ≤ cap) (e : (Instr.slice 35 (.slice a L cap) none (some (.int .i64 (n : Int))) none).run Try.prog w = .ok (.slice Q n cap) w) : ∀ ad, Q = some ad → ∃ ad', a = some ad' ∧ ad.block = ad'.block := by
  rw [run_slice_h (P := Try.prog) w 35 a L cap (by kernel_rfl) .i64 (n : Int) (by omega) (by omega), size_u8] at e
  simp only [Result.andThen_ok, sliced, Int.toNat_natCast, Nat.sub_zero] at e
  intro ad h
  have hQ : (if cap = 0 then a else a.map (·.add (0 * 1))) = Q := by injection e with e1; injection e1
  rw [h] at hQ
  split at hQ
  · exact ⟨ad, hQ, rfl⟩
  · obtain ⟨ad', ha, rfl⟩ := Option.map_eq_some_iff.1 hQ
    exact ⟨ad', ha, add_block8 _ _⟩
/-- The bytes that a command of a valid delta writes, and where they lie. -/
theorem content_where {o n : Int} {l : List Int} {a : Option Addr} {cap : Nat} {c : Cmd} {w : World} (hl : BytesIn w a l cap) (ho : (l.length : Int) = o) (hs : single o n c = 0) (hc : CmdOK w c) :
    ∃ A C, BytesIn w A (c.cont l) C ∧ (∀ ad, A = some ad → ∃ ad', (((0 < (c.cont l).length → 0 < l.length) ∧ a = some ad') ∨ c.a = some ad') ∧ ad.block = ad'.block) ∧ ∀ W, BytesIn W A (c.cont l) C → Calls Try.prog 48 #[.slice a l.length cap, cmdV c.k c.t c.f c.n (.slice c.a c.l.length c.cap)] W (Gives (.slice A (c.cont l).length C) W) := by
  obtain ⟨h1, h2, h3⟩ := single_ok hs
  have hk : c.k = 1 ∨ c.k = 2 := (cont_len ho hs).2
  rcases hk with hk | hk
  · obtain ⟨q1, q2⟩ := h3 hk
    have hw : c.w = c.n := by unfold Cmd.w wlen; rw [if_pos hk]
    obtain ⟨f, hf⟩ : ∃ f : Nat, c.f = f := ⟨c.f.toNat, by omega⟩
    obtain ⟨n', hn⟩ : ∃ n' : Nat, c.n = n' := ⟨c.n.toNat, by omega⟩
    have hcont : c.cont l = (l.drop f).take n' := by
      unfold Cmd.cont contC Cmd.core
      simp only
      rw [if_pos hk, hf, hn, Int.toNat_natCast, Int.toNat_natCast]
    have hfr := hl.from8 f (by omega)
    obtain ⟨Q, e3, hQ⟩ := cutb_h hfr n' (by rw [List.length_drop]; omega)
    rw [List.length_drop] at e3
    have hlen : (c.cont l).length = n' := by rw [hcont]; simp; omega
    have hlc := hl.len
    refine ⟨Q, cap - f, by rw [hcont]; exact hQ, fun ad had => ?_, fun W _ => ?_⟩
    · obtain ⟨a1, h1, e1⟩ := cut_where w (by omega) (by omega) (e3 w) ad had
      obtain ⟨a2, h2, e2⟩ := sl8_where a1 h1
      exact ⟨a2, .inl ⟨fun hp => by rw [hcont, List.length_take, List.length_drop] at hp; omega, h2⟩, e1.trans e2⟩
    · rw [hk, hf, hn, hlen]
      exact content_copy a l.length cap c.t f n' c.a Q c.cap c.l.length W hl.len hl.capb (by omega) e3
  · have hcont : c.cont l = c.l := by
      unfold Cmd.cont contC Cmd.core
      simp only
      rw [if_neg (by omega)]
    refine ⟨c.a, c.cap, by rw [hcont]; exact hc.b, fun ad had => ⟨ad, .inr had, rfl⟩, fun W hW => ?_⟩
    rw [hcont] at hW
    rw [hk, hcont]
    exact content_lit a l.length cap c.t c.f c.n c.l c.a c.cap W hW

theorem flat_take {α β : Type} {f : α → List β} (L : List α) (k : Nat) : ((L.take k).flatMap f).length ≤ (L.flatMap f).length := by
  conv => rhs; rw [← List.take_append_drop k L, List.flatMap_append, List.length_append]
  omega

end Go.Proofs.Ytojipgeclofjmaa

/- Tidy of package tidy. -/
namespace Go.Proofs.Ytojipgeclofjmaa
open Go.RowKit Go.Proofs.Ytojipgeclofjmaa.Plain01
set_option linter.unusedVariables false
set_option linter.unusedSimpArgs false

theorem CmdsIn.keep9 {W W' : World} {B : Nat} {a : Option Addr} {cs : List Cmd} {cap : Nat} (h : CmdsIn W a cs cap) (hk : ∀ k, B ≤ k → k < W.heap.size → W'.heap[k]? = W.heap[k]?) (ha : 0 < cs.length → ∀ ad, a = some ad → B ≤ ad.block) (hd : ∀ c ∈ cs, 0 < c.l.length → ∀ ad, c.a = some ad → B ≤ ad.block) : CmdsIn W' a cs cap :=
  ⟨h.len, h.capb, fun hp => by
    obtain ⟨b, o, he, hc⟩ := h.cells hp
    refine ⟨b, o, he, fun i c hi j u hu => ?_⟩
    have h1 := hc i c hi j u hu
    rw [World.cell?_of_block (w := W) (w' := W') (hk b (ha hp _ he) (World.block_lt_of_cell? _ _ h1))]
    exact h1, fun c hc => ⟨(h.ok c hc).k, (h.ok c hc).t, (h.ok c hc).f, (h.ok c hc).n, bytes_keep (h.ok c hc).b (fun hp ad had hlt => hk _ (hd c hc hp ad had) hlt), (h.ok c hc).o⟩, h.nil⟩
theorem single_good {o n : Int} {c : Cmd} (h : single o n c = 0) (hn : n ≤ 4611686018427387903) : GoodB c.core := by
  obtain ⟨h1, h2, h3⟩ := single_ok h
  have h4 := chk_ok (show chk c.k c.t c.f c.n c.l.length = 0 from h1)
  unfold GoodB Cmd.core
  simp only
  unfold Cmd.w wlen at h2
  rcases h4 with ⟨k1, k2, k3, k4, k5⟩ | ⟨k1, k2, k3, k4, k5⟩
  · rw [if_pos k1] at h2
    have e5 := okE_iff.1 k5
    simp only at e5
    exact .inl ⟨k1, h2.1, e5.1, by omega, List.eq_nil_of_length_eq_zero k2, by omega, by omega⟩
  · rw [if_neg (by omega)] at h2
    exact .inr ⟨k1, h2.1, k2, k3, by omega, by omega⟩

/-- What Tidy returns. -/
def TidyPost (o n : Int) (x y : List Int) (cs : List Cmd) (w : World) (e : Ending) (w' : World) : Prop :=
  ∃ (D' : Array Value) (a : Option Addr) (ds ls : List Cmd) (cap : Nat), e = .returned (.agg D') ∧ DeltaOf D' o n x y (.slice a ds.length cap) ∧ CmdsIn w' a ds cap ∧ cores ds = mergeL (cores ls) ∧ ls.Perm cs ∧ Asc ls ∧ Below w.heap.size w w'

set_option maxRecDepth 100000 in
set_option maxHeartbeats 8000000 in
theorem tidy9_any (D : Array Value) (o n : Int) (x y : List Int) (ca : Option Addr) (cs : List Cmd) (ccap : Nat) (hD : DeltaOf D o n x y (.slice ca cs.length ccap)) (w : World) (h : CmdsIn w ca cs ccap) (hL : cs.length ≤ 1000) (hsm : ∀ c ∈ cs, c.l.length ≤ 1000) (hv : ValidD o n cs) :
    Calls Try.prog 17 #[.agg D] w (TidyPost o n x y cs w) := by
  have hz := zero_delta
  obtain ⟨S, hS⟩ := start2 w (deltaO D) (deltaO zeroDel)
  have hso := dsort_any2 D o n x y ca cs ccap hD S.w (h.W S) (by omega) (fun c hc => by have := hsm c hc; omega)
  have hinf := infoDelta hD
  have hg : ((w.alloc (deltaO D)).alloc (deltaO zeroDel)).heap[w.heap.size]? = some (deltaO D) := heap_old (heap_new w _ rfl) _
  have HGOOD : Hid (∀ ds ls : List Cmd, cores ds = cores ls → ls.Perm cs → (∀ c ∈ ds, GoodB c.core) ∧ ds.length ≤ 1000 ∧ ∀ c ∈ ds, c.l.length ≤ 1000) := Lib.hid fun ds ls h1 h2 => by
    have key : ∀ c ∈ ds, ∃ d ∈ cs, d.core = c.core := fun c hc => by
      have : c.core ∈ cores ls := by rw [← h1]; exact List.mem_map_of_mem (f := Cmd.core) hc
      obtain ⟨d, hd, he⟩ := List.mem_map.1 this
      exact ⟨d, h2.mem_iff.1 hd, he⟩
    have hnb : n ≤ 4611686018427387903 := by have := hv.lens; unfold LensBad at this; omega
    refine ⟨fun c hc => ?_, ?_, fun c hc => ?_⟩
    · obtain ⟨d, hd, he⟩ := key c hc
      rw [← he]
      exact single_good (hv.all d hd) hnb
    · have e1 := cores_len h1
      have e2 := h2.length_eq
      omega
    · obtain ⟨d, hd, he⟩ := key c hc
      have e5 : d.l = c.l := congrArg (fun q : Core8 => q.2.2.2.2) he
      rw [← e5]
      exact hsm d hd
  have HD := Lib.hid hD
  have HS := Lib.hid hS
  obtain ⟨POST, hP⟩ : ∃ P, P = TidyPost o n x y cs w := ⟨_, rfl⟩
  have HP := Lib.hid hP
  rw [← hP]
  clear hD h hL hsm hv hS hP
  go_enter Try.func17, Try.ntmps17
  go_wp2_with (refine wpList_load_row rfl 25 (.tmp 1) rfl w.heap.size rfl 25 _ (0, 0) _ hg Try.underlying25 rfl hinf ?_)
  rw [HS.out]
  clear hg
  refine hso.mono ?_
  rintro e W2 ⟨D2, g2, ds, ls, rfl, hD2, hds, hco, hpe, has, hb2, hge2, hap2⟩
  obtain ⟨s2, rfl⟩ := S.after hb2
  have hfl := field_cmds hD2 s2.w
  obtain ⟨q1, q2, q3⟩ := HGOOD.out ds ls hco hpe
  have hmg := merge9_any (some ⟨g2, 0, none⟩) ds ds.length s2.w hds q1 q2 q3
  have HLS := Lib.hid (And.intro hco (And.intro hpe has))
  clear hso hD2 hds hco hpe has hb2 hge2 hap2 q1 q2 q3
  go_wp2_with fail
  refine hmg.mono ?_
  rintro e W3 ⟨v3, rfl, ⟨R⟩⟩
  obtain ⟨ds3, els, SG, rfl, hco3, hok3, hdat3⟩ := R
  obtain ⟨a3, cap3, rfl, hcs3⟩ := row_cmds (W := SG.w) (base := s2.w.heap.size) (n := ds3.length) (v := v3) (cs := ds3) SG.own rfl (fun c hc => by
    obtain ⟨⟨h1, h2, h3, h4⟩, h5, h6, _⟩ := hok3 c hc
    exact ⟨h1, h2, h3, h4, (SG.el _ h6).1, h5⟩)
  have hrb : 0 < ds3.length → ∀ ad, a3 = some ad → s2.w.heap.size ≤ ad.block := fun _ ad had => (SG.own.lt ad.block (by rw [had]; rfl)).1
  have hdb : ∀ c ∈ ds3, 0 < c.l.length → ∀ ad, c.a = some ad → s2.w.heap.size ≤ ad.block := fun c hc => (hok3 c hc).2.2.2
  obtain ⟨s3, h3⟩ := s2.after SG.but.below
  rw [h3] at hcs3 ⊢
  have hsz2 : w.heap.size + 1 < s2.w.heap.size := (Array.getElem?_eq_some_iff.1 (s2.blocks (w.heap.size + 1, deltaO zeroDel) (by simp))).1
  have hb0 := s3.blocks (w.heap.size, deltaO D) (by simp)
  have hb1 := s3.blocks (w.heap.size + 1, deltaO zeroDel) (by simp)
  dsimp only at hb0 hb1
  have c66 : s3.w.cell? ⟨w.heap.size, 66, none⟩ = some (.slice ca cs.length ccap) := (cell_of hb0 66).trans HD.out.c66
  have f66 : s3.w.frozen? ⟨w.heap.size, 66, none⟩ = false := free_of hb0 66
  have hD3 := HD.out.set (.slice a3 ds3.length cap3)
  obtain ⟨D3, hD3e⟩ : ∃ D3, D3 = D.setIfInBounds 66 (.slice a3 ds3.length cap3) := ⟨_, rfl⟩
  rw [← hD3e] at hD3
  have hg4 : (s3.w.setCell ⟨w.heap.size, 66, none⟩ (.slice a3 ds3.length cap3)).heap[w.heap.size]? = some (deltaO D3) := by rw [hD3e]; exact heap_setCell_same _ _ _ _ _ _ hb0
  have hg5 : (s3.w.setCell ⟨w.heap.size, 66, none⟩ (.slice a3 ds3.length cap3)).heap[w.heap.size + 1]? = some (deltaO zeroDel) := (heap_setCell_other _ _ _ _ (show w.heap.size + 1 ≠ w.heap.size by omega)).trans hb1
  have hinf3 := infoDelta hD3
  have hone3 := hD3.one rfl
  have hsz3 : zeroDel.size = D3.size := by rw [zeroDel_of.size, hD3.size]
  have hbelow : Below w.heap.size w ((s3.w.setCell ⟨w.heap.size, 66, none⟩ (.slice a3 ds3.length cap3)).setRow (w.heap.size + 1) D3) := below_setRow (s3.below.setCell (p := ⟨w.heap.size, 66, none⟩) (Nat.le_refl _) _) (by omega) _
  have hkeep : CmdsIn ((s3.w.setCell ⟨w.heap.size, 66, none⟩ (.slice a3 ds3.length cap3)).setRow (w.heap.size + 1) D3) a3 ds3 cap3 := hcs3.keep9 (B := s2.w.heap.size) (fun k hk _ => (setRow_other _ _ _ _ (show k ≠ w.heap.size + 1 by omega)).trans (heap_setCell_other _ _ _ _ (show k ≠ w.heap.size by omega))) hrb hdb
  have HQ : Hid (POST (.returned (.agg D3)) ((s3.w.setCell ⟨w.heap.size, 66, none⟩ (.slice a3 ds3.length cap3)).setRow (w.heap.size + 1) D3)) := Lib.hid (by
    rw [HP.out]
    exact ⟨D3, a3, ds3, ls, cap3, rfl, hD3, hkeep, by rw [hco3, HLS.out.1], HLS.out.2.1, HLS.out.2.2, hbelow⟩)
  clear hmg hco3 hok3 hdat3 hcs3 hrb hdb h3 hb0 hb1 hD3 hbelow hkeep hfl hD3e
  go_wp2_with (first
    | (refine wpList_load_row rfl 25 (.tmp 1) rfl w.heap.size rfl 25 _ (0, 0) _ hg4 Try.underlying25 rfl hinf3 ?_)
    | (refine wpList_store_rowTo rfl 25 (.tmp 2) (.tmp 8) rfl rfl (w.heap.size + 1) D3 rfl rfl 25 zeroDel hg5 hinf3 hsz3 hone3 ?_))
  refine bodyPost_ret (v := .agg D3) ?_ rfl HQ.out
  exact results_cell_row Try.results17 _ _ (w.heap.size + 1) 25 _ (0, 0) _ rfl (setRow_heap _ _ _ _ _ _ hg5) Try.underlying25 rfl hinf3
end Go.Proofs.Ytojipgeclofjmaa

/- Apply of the reference of package patch. -/
namespace Go.Proofs.Ytojipgeclofjmaa
open Go.RowKit Go.Proofs.Ytojipgeclofjmaa.Plain01
set_option linter.unusedVariables false
set_option linter.unusedSimpArgs false

theorem valid_cover8 {o n : Int} {l : List Int} {cs : List Cmd} (ho : (l.length : Int) = o) (hv : ValidD o n cs) : ∀ c ∈ cs, okE c.tgt = true ∧ (c.k = 1 ∨ c.k = 2) := fun c hc => by
  have hs := hv.all c hc
  have h2 := (single_ok hs).2.1
  have hl := hv.lens
  unfold LensBad at hl
  exact ⟨okE_iff.2 ⟨by unfold Cmd.tgt; simp only; omega, by unfold Cmd.tgt; simp only; omega, by unfold Cmd.tgt; simp only; omega⟩, (cont_len ho hs).2⟩

/-- A row of bytes that grows. -/
abbrev GB8 (w0 : World) (bs : List (Nat × Obj)) (v : Value) (l : List Int) := Grow w0 none bs [] 5 1 v l.length (l.map (Value.int .u8))
theorem GB8.start (w0 : World) (ob : Obj) : ∃ S : GB8 w0 [(w0.heap.size, ob)] (.slice none 0 0) [], w0.alloc ob = S.w :=
  ⟨⟨w0.alloc ob, ButO.of_below ((Below.refl _ _).alloc (Nat.le_refl _) ob), World.ownsRow_nil _ w0.heap.size 5 1, (fun g hg => by cases hg), (fun p hp => by
    obtain rfl := List.mem_singleton.1 hp
    exact ⟨heap_new w0 ob rfl, by simp [Value.ownBlock]⟩), (fun p hp => by simp at hp)⟩, rfl⟩
/-- One byte out of a block of its own. -/
theorem GB8.one {w0 : World} {bs : List (Nat × Obj)} {v : Value} {l : List Int} {ops : Array Oper} {rest : List Oper} {o : Oper} {a : Act} {Q : Exit → Act → World → Prop} (S : GB8 w0 bs v l) (sO srcO : Operand)
    (hgd : o.guard = none) (ho : o.op = .call { callee := .builtin .append, args := #[sO, srcO], argTypes := #[35, 35] }) (hs : a.eval sO = v) (x : Int) (hx : a.eval srcO = .slice (some ⟨S.w.heap.size, 0, none⟩) 1 1) (hl : l.length ≤ 100000000)
    (H : ∀ v' (S' : GB8 w0 bs v' (l ++ [x])), wpList Try.prog ops Q rest (a.put o.dst v') S'.w) : wpList Try.prog ops Q (o :: rest) a (S.w.alloc (.cells #[.int .u8 x] 5)) := by
  obtain ⟨E, hE⟩ := elemW8
  obtain ⟨S1, h1⟩ := S.push (.cells #[.int .u8 x] 5 (0, 0))
  have hb := (S1.blocks (S.w.heap.size, .cells #[.int .u8 x] 5 (0, 0)) (by simp)).1
  rw [h1]
  refine Grow.append E S1 sO srcO hgd ho hs ⟨S.w.heap.size, 0, none⟩ 1 1 [.int .u8 x] rfl hx (fun j u hu => ?_) (by simp [Value.oneCell']) (by unfold maxLen; omega) (by rw [hE]; omega) (fun v' S2 => ?_)
  · rw [Addr.add_mid, Nat.zero_add, cell_of hb]
    simpa using hu
  · obtain ⟨S3, h3⟩ := S2.sub (bs' := bs) (fun p hp => List.mem_cons_of_mem _ hp)
    obtain ⟨S4, h4⟩ := S3.conv (n' := (l ++ [x]).length) (xs' := (l ++ [x]).map (Value.int .u8)) (by simp) (by simp)
    rw [h3, h4]
    exact H v' S4
/-- A new zero command. -/
def IsBox5 (base : Nat) : Value → World → Prop := fun v w => ∃ B, v = .pointer (some ⟨B, 0, none⟩) ∧ base ≤ B ∧ w.heap[B]? = some (cmdO 0 0 0 0 (.slice none 0 0))
theorem stable_Box5 (base : Nat) : Stable (fun W W' => Below W.heap.size W W') (IsBox5 base) := fun v w w' ⟨B, h1, h2, h3⟩ hE => ⟨B, h1, h2, (hE.block _ (Array.getElem?_eq_some_iff.1 h3).1).trans h3⟩
/-- A new zero command is written as a whole. -/
theorem Grow.fill5 {w0 : World} {bs : List (Nat × Obj)} {els : List Sl7} {e : TypeId} {size : Nat} {v : Value} {n : Nat} {xs : List Value} (S : Grow w0 none bs els e size v n xs) {W : World} (hW : Below S.w.heap.size S.w W) {B : Nat} (hB : S.w.heap.size ≤ B) {cells old : Array Value} {t : TypeId} (hb : W.heap[B]? = some (.cells old t (0, 0))) :
    ∃ S' : Grow w0 none ((B, .cells cells t (0, 0)) :: bs) els e size v n xs, W.setRow B cells = S'.w := by
  have hbw : Below S.w.heap.size S.w (W.setRow B cells) := below_setRow hW hB _
  exact S.keep (ButO.of_below hbw) _ (List.forall_mem_cons.2 ⟨⟨setRow_heap _ _ _ _ _ _ hb, fun hg => by have := S.ownLt hg; simp only at this; omega⟩, S.held hbw⟩)

theorem newF_step {o : Int} {n : Nat} {l : List Int} {cs : List Cmd} (ho : (l.length : Int) = o) (hv : ValidD o n cs) {k : Nat} (hk : k < n) : ∃ (fi : Nat) (c : Cmd) (i : Nat) (x : Int), findOf cs (k : Int) = fi ∧ cs[fi]? = some c ∧ (k : Int) = c.t + i ∧ (i : Int) < c.w ∧ (c.cont l)[i]? = some x ∧ (newF l n cs).take (k + 1) = (newF l n cs).take k ++ [x] := by
  have hfs := findOf_spec cs (k : Int)
  obtain ⟨j, c0, hj, hh⟩ := (hv.some (k : Int)).1 ⟨by omega, by omega⟩
  have hne : findOf cs (k : Int) ≠ -1 := fun he => hfs.no he c0 (List.mem_of_getElem? hj) hh
  obtain ⟨fi, c, hf, hfc, hc, -⟩ := hfs.yes hne
  have hm := List.mem_of_getElem? hfc
  have hs := hv.all c hm
  have hsb := (single_ok hs).2.1
  have hw := (cont_len ho hs).1
  unfold Cmd.has at hc
  obtain ⟨i, hi⟩ : ∃ i : Nat, (k : Int) = c.t + i := ⟨(k - c.t).toNat, by omega⟩
  have hat := newF_at ho hv hm (i := i) (by omega)
  have hlen : i < (c.cont l).length := by omega
  rw [List.getElem?_eq_getElem hlen, show c.t.toNat + i = k by omega] at hat
  refine ⟨fi, c, i, (c.cont l)[i], hf, hfc, hi, by omega, List.getElem?_eq_getElem hlen, ?_⟩
  rw [List.take_add_one, hat]
  rfl

set_option maxRecDepth 100000 in
set_option maxHeartbeats 4000000 in
theorem rapply8_any (l : List Int) (a : Option Addr) (cap : Nat) (D : Array Value) (o : Int) (n : Nat) (x y : List Int) (ca : Option Addr) (cs : List Cmd) (ccap : Nat) (hD : DeltaOf D o n x y (.slice ca cs.length ccap)) (w : World) (hl : BytesIn w a l cap) (h : CmdsIn w ca cs ccap) (hL : cs.length ≤ 1000000) (hn : n ≤ 1000000) (ho : (l.length : Int) = o) (hv : ValidD o n cs) :
    Calls Try.prog 25 #[.slice a l.length cap, .agg D] w (MakesR 5 ((newF l n cs).map (Value.int .u8)) w) := by
  have hcov := valid_cover8 ho hv
  have HFIND := Lib.hid (fun (z : Int) (W : World) (hW : Below w.heap.size w W) => rfind_any D o n x y ca cs ccap hD z W (h.below hW) (fun c hc => (hcov c hc).1))
  have HLD := Lib.hid (fun (W : World) (hW : W.heap[w.heap.size]? = some (deltaO D)) => load_delta hD hW)
  have HD1 := Lib.hid (fun (W : World) (hW : W.heap[w.heap.size]? = some (deltaO D)) => (cell_of hW 1).trans hD.c1)
  have HD66 := Lib.hid (fun (W : World) (hW : W.heap[w.heap.size]? = some (deltaO D)) => (cell_of hW 66).trans hD.c66)
  have HSTEP := Lib.hid (fun k (hk : k < n) => newF_step ho hv hk)
  have HV := Lib.hid (And.intro ho hv)
  have HC := Lib.hid h
  have HL := Lib.hid hl
  have HLEN := Lib.hid (newF_length l n cs)
  have hccap := h.capb
  have hclen := h.len
  obtain ⟨CC, hCC⟩ : ∃ m, m = cs.length := ⟨_, rfl⟩
  have HCC := Lib.hid hCC
  rw [← hCC] at HD66 hclen hL
  obtain ⟨LL, hLL⟩ : ∃ m, m = l.length := ⟨_, rfl⟩
  have HLL := Lib.hid hLL
  have hlcap := hl.capb
  have hllen := hl.len
  rw [← hLL] at hllen ⊢
  obtain ⟨F, hF⟩ : ∃ F, F = newF l n cs := ⟨_, rfl⟩
  rw [← hF] at HSTEP HLEN ⊢
  obtain ⟨POST, hP⟩ : ∃ P, P = MakesR 5 (F.map (Value.int .u8)) w := ⟨_, rfl⟩
  have HP := Lib.hid hP
  rw [← hP]
  clear hD hl h ho hv hcov hCC hLL hF hP
  go_enter Try.func25, Try.ntmps25
  go_wp2
  obtain ⟨G0, h0⟩ := GB8.start w (deltaO D)
  rw [h0]
  clear h0
  go_loopw [5, 6] (fun v i wr => ∃ k : Nat, k ≤ n ∧ i = .int .i64 k ∧ ∃ m : List Int, Hid (m = F.take k) ∧ ∃ G : GB8 w [(w.heap.size, deltaO D)] v m, wr = G.w) (fun _ i _ => n - (intOf i).toNat)
  case atStart => exact ⟨0, by omega, rfl, [], Lib.hid (by simp), G0, rfl⟩
  case round =>
    clear G0
    obtain ⟨k, hk, rfl, m, hm, G, rfl⟩ := hrel
    have hml : m.length ≤ 1000000 := by rw [hm.out, List.length_take]; omega
    have hg := (G.blocks (w.heap.size, deltaO D) (by simp)).1
    have hg1 := HD1.out _ hg
    by_cases hlt : k < n
    · obtain ⟨fi, c, i, xb, hfi, hci, hki, hiw, hxb, htk⟩ := HSTEP.out k hlt
      have hcm := List.mem_of_getElem? hci
      have hs0 := HV.out.2.all c hcm
      have hsb := (single_ok hs0).2.1
      have hlens := HV.out.2.lens
      unfold LensBad at hlens
      have hfic : fi < CC := by rw [HCC.out]; exact (List.getElem?_eq_some_iff.1 hci).1
      have HTK := Lib.hid htk
      have HFI := Lib.hid hfi
      have HGB := Lib.hid (show ∀ W, Below G.w.heap.size G.w W → Below w.heap.size w W from fun W hW => G.but.below.trans (hW.mono G.but.size))
      have HGH := Lib.hid (show ∀ W, Below G.w.heap.size G.w W → W.heap[w.heap.size]? = some (deltaO D) from fun W hW => heap_below hg hW)
      obtain ⟨b, oo, rfl, x0, x1, x2, x3, x4⟩ := HC.out.at hci
      have HX : Hid (∀ W, Below G.w.heap.size G.w W → W.cell? ⟨b, oo + fi * 5, none⟩ = some (.int .i64 c.k) ∧ W.cell? ⟨b, oo + fi * 5 + 1, none⟩ = some (.int .i64 c.t) ∧ W.cell? ⟨b, oo + fi * 5 + 2, none⟩ = some (.int .i64 c.f) ∧ W.cell? ⟨b, oo + fi * 5 + 3, none⟩ = some (.int .i64 c.n) ∧ W.cell? ⟨b, oo + fi * 5 + 4, none⟩ = some (.slice c.a c.l.length c.cap)) := Lib.hid fun W hW => by
        have hb := HGB.out W hW
        exact ⟨(hb.cell (World.block_lt_of_cell? _ _ x0)).trans x0, (hb.cell (World.block_lt_of_cell? _ _ x1)).trans x1, (hb.cell (World.block_lt_of_cell? _ _ x2)).trans x2, (hb.cell (World.block_lt_of_cell? _ _ x3)).trans x3, (hb.cell (World.block_lt_of_cell? _ _ x4)).trans x4⟩
      have HKI := Lib.hid (And.intro hki (And.intro hiw (And.intro hxb hsb)))
      clear hfi htk hg x0 x1 x2 x3 x4 hki hiw hxb hsb
      go_wp2_with fail
      clear hg1
      have HFC := Lib.hid hfic
      refine wp_region_looseT 8
        [IsV (.pointer (some ⟨w.heap.size, 66, none⟩)), IsV (.slice (some ⟨b, oo, none⟩) CC ccap), IsV (.agg D), IsV (.int .i64 (k : Int)), IsV (.int .i64 (fi : Int)), IsV (.pointer (some ⟨b, oo + fi * 5, none⟩)), IsV (cmdV c.k c.t c.f c.n (.slice c.a c.l.length c.cap)), IsBox5 G.w.heap.size]
        [⟨14, [], [3]⟩, ⟨15, [(0, 14)], []⟩, ⟨16, [], [3]⟩, ⟨17, [], [6]⟩, ⟨18, [(2, 16), (3, 17)], []⟩, ⟨19, [(1, 15), (4, 18)], []⟩, ⟨20, [(5, 19)], []⟩, ⟨7, [], []⟩]
        (fun W => Below G.w.heap.size G.w W) (fun W W' => Below W.heap.size W W') (by kernel_rfl) (by kernel_rfl) (by kernel_rfl) rfl rfl (Below.refl _ G.w).drew ?_
        ⟨?_, ?_, ?_, ?_, ?_, ?_, ?_, ?_, trivial⟩ ?_
      · repeat (first | (intro _ h; cases h; done) | refine List.forall_mem_cons.2 ⟨stable_V _ _, ?_⟩ | refine List.forall_mem_cons.2 ⟨stable_Box5 _, ?_⟩)
      · intro A W hC hd hx
        have hk : ∀ v, A.eval (.const v) = v := fun _ => rfl
        have hy0 : A.eval (.tmp 3) = .pointer (some ⟨w.heap.size, 0, none⟩) := hx 3 (by simp)
        clear hd
        generalize A.eval = ρ at hk hy0 ⊢
        simp [go_sem, looseUpon, factOf, hk, hy0]
        exact ⟨hC, Below.refl _ _⟩
      · intro A W hC hd hx
        have hk : ∀ v, A.eval (.const v) = v := fun _ => rfl
        have c0 := HD66.out W (HGH.out W hC)
        simp [factOf] at hd
        generalize A.eval = ρ at hd hk ⊢
        simp [go_sem, looseUpon, factOf, hd, hk, c0]
        exact ⟨hC, Below.refl _ _⟩
      · intro A W hC hd hx
        have hy0 : A.eval (.tmp 3) = .pointer (some ⟨w.heap.size, 0, none⟩) := hx 3 (by simp)
        have hld := HLD.out W (HGH.out W hC)
        refine ⟨fun g hg => (by cases hg), ?_⟩
        clear hd
        generalize A.eval = ρ at hy0 ⊢
        simp [execOp, hy0, hld, looseUpon, factOf]
        exact ⟨hC, Below.refl _ _⟩
      · intro A W hC hd hx
        have hk : ∀ v, A.eval (.const v) = v := fun _ => rfl
        have hy0 : A.eval (.tmp 6) = .int .i64 (k : Int) := hx 6 (by simp)
        clear hd
        generalize A.eval = ρ at hk hy0 ⊢
        simp [go_sem, looseUpon, factOf, hk, hy0]
        exact ⟨hC, Below.refl _ _⟩
      · intro A W hC hd hx
        simp [factOf] at hd
        obtain ⟨hd0, hd1⟩ := hd
        refine ⟨fun g hg => (by cases hg), ?_⟩
        refine loose_call rfl Try.func32 (by kernel_rfl) (by kernel_rfl) ?_
        simp only [List.map_toArray, List.map_cons, List.map_nil, hd0, hd1]
        have hw := HFIND.out (k : Int) W (HGB.out W hC)
        rw [HFI.out] at hw
        refine hw.mono ?_
        rintro e' W' ⟨rfl, h4⟩
        exact ⟨_, rfl, rfl, hC.trans (h4.mono hC.size), h4⟩
      · intro A W hC hd hx
        have hk : ∀ v, A.eval (.const v) = v := fun _ => rfl
        have c0 := HFC.out
        simp [factOf] at hd
        generalize A.eval = ρ at hd hk ⊢
        simp [go_sem, looseUpon, factOf, hd, hk, c0]
        exact ⟨hC, Below.refl _ _⟩
      · intro A W hC hd hx
        have hk : ∀ v, A.eval (.const v) = v := fun _ => rfl
        have c0 := (HX.out W hC).1
        have c1 := (HX.out W hC).2.1
        have c2 := (HX.out W hC).2.2.1
        have c3 := (HX.out W hC).2.2.2.1
        have c4 := (HX.out W hC).2.2.2.2
        simp [factOf] at hd
        generalize A.eval = ρ at hd hk ⊢
        simp [go_sem, looseUpon, factOf, hd, hk, c0, c1, c2, c3, c4]
        exact ⟨hC, Below.refl _ _⟩
      · intro A W hC hd hx
        have hk : ∀ v, A.eval (.const v) = v := fun _ => rfl
        clear hd
        generalize A.eval = ρ at hk ⊢
        simp [go_sem, looseUpon, factOf, hk]
        exact ⟨⟨_, rfl, hC.size, World.alloc_heap_new _ _⟩, hC.alloc hC.size _, (Below.refl _ _).alloc (Nat.le_refl _) _⟩
      · intro W hC
        simp only [ends]
        rintro _ rfl _ rfl _ rfl _ rfl _ rfl _ rfl _ rfl _ ⟨B, rfl, hB, hbz⟩
        simp only [putAll, List.zip_cons_cons, List.zip_nil_left, List.foldl_cons, List.foldl_nil, Act.put, List.setIfInBounds_toArray, List.set_cons_succ, List.set_cons_zero, List.drop_succ_cons, List.drop_zero]
        obtain ⟨G2, hG2⟩ := G.fill5 hC hB (cells := #[.int .i64 c.k, .int .i64 c.t, .int .i64 c.f, .int .i64 c.n, .slice c.a c.l.length c.cap]) hbz
        have HG2 := Lib.hid hG2
        clear hG2
        obtain ⟨hki, hiw, hxb, hsb⟩ := HKI.out
        have hcont := hxb
        unfold Cmd.cont contC Cmd.core at hcont
        simp only at hcont
        have hww : Hid (Below w.heap.size w G2.w) := Lib.hid G2.but.below
        have HNX := Lib.hid (show m ++ [xb] = F.take (k + 1) by rw [HTK.out, hm.out])
        have HCB := Lib.hid ((HC.out.ok c hcm).b)
        have hk12 := (cont_len HV.out.1 hs0).2
        have hcd := cmd_cells (G2.blocks (B, cmdO c.k c.t c.f c.n (.slice c.a c.l.length c.cap)) (by simp)).1
        dsimp only at hcd
        have hg2 := (G2.blocks (w.heap.size, deltaO D) (by simp)).1
        have hinf : (Try.prog.info? 37).map (·.size) = some (#[.int .i64 c.k, .int .i64 c.t, .int .i64 c.f, .int .i64 c.n, .slice c.a c.l.length c.cap] : Array Value).size := by
          show _ = some 5
          kernel_rfl
        have hone : (#[.int .i64 c.k, .int .i64 c.t, .int .i64 c.f, .int .i64 c.n, .slice c.a c.l.length c.cap] : Array Value).all (·.oneCell') = true := by simp [Value.oneCell']
        have hsz : (#[.int .i64 0, .int .i64 0, .int .i64 0, .int .i64 0, .slice none 0 0] : Array Value).size = (#[.int .i64 c.k, .int .i64 c.t, .int .i64 c.f, .int .i64 c.n, .slice c.a c.l.length c.cap] : Array Value).size := rfl
        rcases hk12 with hk | hk
        · obtain ⟨q1, q2⟩ := (single_ok hs0).2.2 hk
          rw [if_pos hk] at hcont
          have hwn : c.w = c.n := by unfold Cmd.w wlen; rw [if_pos hk]
          have hll : (LL : Int) = o := by rw [HLL.out]; exact HV.out.1
          obtain ⟨j, hj⟩ : ∃ j : Nat, j = c.f.toNat + i := ⟨_, rfl⟩
          have hjl : j < LL := by omega
          rw [List.getElem?_take, if_pos (by omega), List.getElem?_drop, ← hj] at hcont
          obtain ⟨bA, oA, rfl, hcA⟩ := HL.out.cells (by rw [← HLL.out]; omega)
          have hcj := hcA j (by rw [← HLL.out]; exact hjl)
          rw [hcont] at hcj
          have d5 : G2.w.cell? ⟨bA, oA + j, none⟩ = some (.int .u8 xb) := (hww.out.cell (World.block_lt_of_cell? _ _ hcj)).trans hcj
          have e1 : (c.k == 1) = true := by rw [hk]; rfl
          have e32 : c.f + (k : Int) - c.t = (j : Int) := by omega
          have hb1 : c.f ≤ 4611686018427387903 := by omega
          have hb2 : 0 ≤ c.t := by omega
          have hb3 : c.t ≤ 4611686018427387903 := by omega
          obtain ⟨d0, d1, d2, d3, d4⟩ := hcd
          clear hcont hcj hcA hj hki hiw hxb hsb hk hwn hll hs0 hlens q2
          refine wpList_store_rowTo rfl 37 (.tmp 7) (.tmp 20) rfl rfl B #[.int .i64 c.k, .int .i64 c.t, .int .i64 c.f, .int .i64 c.n, .slice c.a c.l.length c.cap] rfl rfl 37 #[.int .i64 0, .int .i64 0, .int .i64 0, .int .i64 0, .slice none 0 0] hbz hinf hsz hone ?_
          rw [HG2.out]
          go_wp2_with ((refine GB8.one G2 (.tmp 24) (.tmp 35) rfl rfl rfl xb rfl (by omega) ?_; intro v' G3))
          obtain ⟨G4, h4⟩ := G3.sub (bs' := [(w.heap.size, deltaO D)]) (by simp)
          have H4 := Lib.hid h4
          clear d0 d1 d2 d3 d4 d5 h4
          go_roundw
          case rel => exact ⟨k + 1, by omega, by go_num, _, HNX, G4, H4.out⟩
          case measure => simp [intOf]; omega
        · rw [if_neg (by omega)] at hcont
          have hil := (List.getElem?_eq_some_iff.1 hcont).1
          obtain ⟨bA, oA, hca, hcA⟩ := HCB.out.cells (by omega)
          have hcj := hcA i hil
          rw [hcont] at hcj
          have d5 : G2.w.cell? ⟨bA, oA + i, none⟩ = some (.int .u8 xb) := (hww.out.cell (World.block_lt_of_cell? _ _ hcj)).trans hcj
          have e1 : (c.k == 1) = false := by rw [hk]; rfl
          have e43 : (k : Int) - c.t = (i : Int) := by omega
          have hb2 : 0 ≤ c.t := by omega
          have hb3 : c.t ≤ 4611686018427387903 := by omega
          have hcl := HCB.out.len
          obtain ⟨d0, d1, d2, d3, d4⟩ := hcd
          replace d4 : G2.w.cell? ⟨B, 4, none⟩ = some (.slice (some ⟨bA, oA, none⟩) c.l.length c.cap) := d4.trans (by rw [hca])
          have hcc := HCB.out.capb
          clear hcont hcj hcA hki hiw hxb hsb hk hs0 hlens
          refine wpList_store_rowTo rfl 37 (.tmp 7) (.tmp 20) rfl rfl B #[.int .i64 c.k, .int .i64 c.t, .int .i64 c.f, .int .i64 c.n, .slice c.a c.l.length c.cap] rfl rfl 37 #[.int .i64 0, .int .i64 0, .int .i64 0, .int .i64 0, .slice none 0 0] hbz hinf hsz hone ?_
          rw [HG2.out]
          go_wp2_with ((refine GB8.one G2 (.tmp 37) (.tmp 46) rfl rfl rfl xb rfl (by omega) ?_; intro v' G3))
          obtain ⟨G4, h4⟩ := G3.sub (bs' := [(w.heap.size, deltaO D)]) (by simp)
          have H4 := Lib.hid h4
          clear d0 d1 d2 d3 d4 d5 h4
          go_roundw
          case rel => exact ⟨k + 1, by omega, by go_num, _, HNX, G4, H4.out⟩
          case measure => simp [intOf]; omega
    · obtain rfl : k = n := by omega
      have hmF : m = F := by rw [hm.out, ← HLEN.out, List.take_length]
      have HQ : Hid (POST (.returned u5) G.w) := Lib.hid (by
        rw [HP.out, ← hmF]
        exact ⟨u5, rfl, ⟨G.w, G.but.below, by have := G.own; rw [List.length_map]; exact this⟩, rfl⟩)
      clear hmF
      go_wp2
      exact HQ.out
end Go.Proofs.Ytojipgeclofjmaa

/- Of of package tidy. -/
namespace Go.Proofs.Ytojipgeclofjmaa
open Go.RowKit Go.Proofs.Ytojipgeclofjmaa.Plain01
set_option linter.unusedVariables false
set_option linter.unusedSimpArgs false

set_option maxRecDepth 100000 in
set_option maxHeartbeats 8000000 in
theorem of9_no (D : Array Value) (o : Int) (n : Nat) (x y : List Int) (ca : Option Addr) (cs : List Cmd) (ccap : Nat) (hD : DeltaOf D o n x y (.slice ca cs.length ccap)) (off : Int) (w : World) (h : CmdsIn w ca cs ccap) (hv : ValidD o n cs) (hoff : ¬ (0 ≤ off ∧ off < (n : Int))) :
    Calls Try.prog 11 #[.agg D, .int .i64 off] w (Gives (.tuple #[.agg (orgA false 0 0), .bool false]) w) := by
  obtain ⟨S, hS⟩ := start2 w (deltaO D) (orgO false 0 0)
  have hcov : ∀ c ∈ cs, okE c.tgt = true ∧ (c.k = 1 ∨ c.k = 2) := fun c hc => by
    have hg := good_ok (single_good (hv.all c hc) (by have := hv.lens; unfold LensBad at this; omega))
    exact ⟨hg.1, hg.2.1⟩
  have hfi := dfind_any D o n x y ca cs ccap hD off S.w (h.W S) hcov
  have hr : findOf cs off = -1 := Classical.byContradiction fun hne => by
    obtain ⟨k, c, _, hk, hh, _⟩ := (findOf_spec cs off).yes hne
    exact hoff ((hv.some off).2 ⟨k, c, hk, hh⟩)
  rw [hr] at hfi
  have hinf := infoDelta hD
  have hg : ((w.alloc (deltaO D)).alloc (orgO false 0 0)).heap[w.heap.size]? = some (deltaO D) := heap_old (heap_new w _ rfl) _
  have HS := Lib.hid hS
  have hsz := org_size false 0 0
  have hone := org_one false 0 0
  clear hS hD h hv hoff hr hcov
  go_enter Try.func11, Try.ntmps11
  go_wp2_with (refine wpList_load_row rfl 25 (.tmp 2) rfl w.heap.size rfl 25 _ (0, 0) _ hg Try.underlying25 rfl hinf ?_)
  rw [HS.out]
  clear hg
  refine (HeldW.call hfi).mono ?_
  rintro e _ ⟨rfl, s2, rfl⟩
  have hst := s2.blocks (w.heap.size + 1, orgO false 0 0) (by simp)
  dsimp only at hst
  have HBW := Lib.hid (show Below w.heap.size w (s2.w.setRow (w.heap.size + 1) (orgA false 0 0)) from below_setRow s2.below (by omega) _)
  have hhp : (s2.w.setRow (w.heap.size + 1) (orgA false 0 0)).heap[w.heap.size + 1]? = some (orgO false 0 0) := setRow_heap _ _ _ _ _ _ hst
  have r0 := cell_of hhp 0
  have r1 := cell_of hhp 1
  have r2 := cell_of hhp 2
  have HR0 := Lib.hid (And.intro r0 (And.intro r1 r2))
  clear hfi hhp r0 r1 r2
  go_wp2_with (refine wpList_store_rowTo rfl 29 (.tmp 4) (.tmp 13) rfl rfl (w.heap.size + 1) (orgA false 0 0) rfl rfl 29 (orgA false 0 0) hst hsz rfl hone ?_)
  obtain ⟨r0, r1, r2⟩ := HR0.out
  refine bodyPost_ret (v := .tuple #[.agg (orgA false 0 0), .bool false]) (by simp [results, Try.results11, go_sem, r0, r1, r2]) rfl ⟨rfl, HBW.out⟩

set_option maxRecDepth 100000 in
set_option maxHeartbeats 8000000 in
theorem of9_yes (D : Array Value) (o : Int) (n : Nat) (x y : List Int) (ca : Option Addr) (cs : List Cmd) (ccap : Nat) (hD : DeltaOf D o n x y (.slice ca cs.length ccap)) (off : Nat) (c : Cmd) (fi : Nat) (w : World) (h : CmdsIn w ca cs ccap) (hL : cs.length ≤ 1000000) (hv : ValidD o n cs) (hf : findOf cs (off : Int) = fi) (hc : cs[fi]? = some c) (hh : c.has off) :
    Calls Try.prog 11 #[.agg D, .int .i64 (off : Int)] w (Gives (.tuple #[.agg (orgOf c ((off : Int) - c.t)), .bool true]) w) := by
  obtain ⟨S, hS⟩ := start2 w (deltaO D) (orgO false 0 0)
  have hnb : (n : Int) ≤ 4611686018427387903 := by have := hv.lens; unfold LensBad at this; omega
  have hcov : ∀ c ∈ cs, okE c.tgt = true ∧ (c.k = 1 ∨ c.k = 2) := fun c hc => by
    have hg := good_ok (single_good (hv.all c hc) hnb)
    exact ⟨hg.1, hg.2.1⟩
  have hfi := dfind_any D o n x y ca cs ccap hD (off : Int) S.w (h.W S) hcov
  rw [hf] at hfi
  have hcm := List.mem_of_getElem? hc
  have hgc := single_good (hv.all c hcm) hnb
  have hsb := (single_ok (hv.all c hcm)).2.1
  unfold Cmd.has at hh
  obtain ⟨i, hi⟩ : ∃ i : Nat, (off : Int) - c.t = i := ⟨((off : Int) - c.t).toNat, by omega⟩
  have HOR := Lib.hid (fun (W : World) (hW : Below w.heap.size w W) => origin_any c i W ((h.ok c hcm).below hW) hgc (by omega))
  rw [hi]
  rw [orgOf_eq] at HOR ⊢
  generalize orgB c = q1 at *
  generalize orgF c i = q2 at *
  generalize orgX c i = q3 at *
  have hinf := infoDelta hD
  have hg : ((w.alloc (deltaO D)).alloc (orgO false 0 0)).heap[w.heap.size]? = some (deltaO D) := heap_old (heap_new w _ rfl) _
  have HC := Lib.hid h
  have HD := Lib.hid hD
  have HS := Lib.hid hS
  have hsz := org_size q1 q2 q3
  have hone := org_one q1 q2 q3
  have HHC := Lib.hid hc
  have hfl : fi < cs.length := (List.getElem?_eq_some_iff.1 hc).1
  have hcap1 := h.len
  have hcap2 := h.capb
  obtain ⟨CC, hCC⟩ : ∃ CC, CC = cs.length := ⟨_, rfl⟩
  rw [← hCC] at hfl hcap1 hL HD
  have ht0 : 0 ≤ c.t := by omega
  have ht1 : c.t ≤ 4611686018427387903 := by omega
  have ho1 : off ≤ 4611686018427387903 := by omega
  clear hS hD h hv hf hcov hc hCC hcm hgc hsb hh hnb
  go_enter Try.func11, Try.ntmps11
  go_wp2_with (refine wpList_load_row rfl 25 (.tmp 2) rfl w.heap.size rfl 25 _ (0, 0) _ hg Try.underlying25 rfl hinf ?_)
  rw [HS.out]
  clear hg
  refine (HeldW.call hfi).mono ?_
  rintro e _ ⟨rfl, s2, rfl⟩
  have c66 : s2.w.cell? ⟨w.heap.size, 66, none⟩ = some (.slice ca CC ccap) := (cell_of (s2.blocks (w.heap.size, deltaO D) (by simp)) 66).trans HD.out.c66
  obtain ⟨b, oo, rfl, x0, x1, x2, x3, x4⟩ := (HC.out.W s2).at HHC.out
  obtain ⟨B, s3, hB, hB0, hlt, hS3⟩ := s2.more1 (cmdO c.k c.t c.f c.n (.slice c.a c.l.length c.cap))
  have HS3 := Lib.hid (And.intro hS3 hB)
  clear hfi hS3 hB hlt
  go_wp2_with fail
  rw [HS3.out.1]
  refine (HeldW.call (HOR.out s3.w s3.below)).mono ?_
  rintro e _ ⟨rfl, s4, rfl⟩
  have hst := s4.blocks (w.heap.size + 1, orgO false 0 0) (by simp)
  dsimp only at hst
  have HBW := Lib.hid (show Below w.heap.size w (s4.w.setRow (w.heap.size + 1) (orgA q1 q2 q3)) from below_setRow s4.below (by omega) _)
  have hhp : (s4.w.setRow (w.heap.size + 1) (orgA q1 q2 q3)).heap[w.heap.size + 1]? = some (orgO q1 q2 q3) := setRow_heap _ _ _ _ _ _ hst
  have r0 := cell_of hhp 0
  have r1 := cell_of hhp 1
  have r2 := cell_of hhp 2
  have HR0 := Lib.hid (And.intro r0 (And.intro r1 r2))
  clear hhp r0 r1 r2 x0 x1 x2 x3 x4 c66
  go_wp2_with (refine wpList_store_rowTo rfl 29 (.tmp 4) (.tmp 24) rfl rfl (w.heap.size + 1) (orgA q1 q2 q3) rfl rfl 29 (orgA false 0 0) hst hsz rfl hone ?_)
  obtain ⟨r0, r1, r2⟩ := HR0.out
  refine bodyPost_ret (v := .tuple #[.agg (orgA q1 q2 q3), .bool true]) (by simp [results, Try.results11, go_sem, r0, r1, r2]) rfl ⟨rfl, HBW.out⟩
end Go.Proofs.Ytojipgeclofjmaa
