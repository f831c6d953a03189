import Derived.BigQuiet
import Derived.Great.BuildSlice
import Derived.Test.YtgmjppjgbalapaaE09q22
import Derived.Test.YtgmjppjgbalapaaE09q14
import Derived.Test.YtgmjppjgbalapaaE09q20
import Derived.Test.YtgmjppjgbalapaaE09q9
import Derived.Test.YtgmjppjgbalapaaE09q15
import Derived.Test.YtgmjppjgbalapaaE09q19
import Derived.Test.YtgmjppjgbalapaaE09q23
import Derived.Test.YtgmjppjgbalapaaE09q12
import Derived.Test.YtgmjppjgbalapaaE09q11
/- Apply of the reference of package patch. -/
namespace Go.Proofs.Ytgmjppjgbalapaa
open Go.RowKit Go.Proofs.Ytgmjppjgbalapaa.Plain01
set_option linter.unusedVariables false
set_option linter.unusedSimpArgs false

theorem valid_cover8 {o n : Int} {l : List Int} {cs : List Cmd} (ho : (l.length : Int) = o) (hv : ValidD o n cs) : ∀ c ∈ cs, okE c.tgt = true ∧ (c.k = 1 ∨ c.k = 2) := fun c hc => by
  have hs := hv.all c hc
  have h2 := (single_ok hs).2.1
  have hl := hv.lens
  unfold LensBad at hl
  exact ⟨okE_iff.2 ⟨by unfold Cmd.tgt; simp only; omega, by unfold Cmd.tgt; simp only; omega, by unfold Cmd.tgt; simp only; omega⟩, (cont_len ho hs).2⟩

/-- A row of bytes that grows. -/
abbrev GB8 (w0 : World) (bs : List (Nat × Obj)) (v : Value) (l : List Int) := Grow w0 none bs [] 5 1 v l.length (l.map (Value.int .u8))
theorem GB8.start (w0 : World) (ob : Obj) : ∃ S : GB8 w0 [(w0.heap.size, ob)] (.slice none 0 0) [], w0.alloc ob = S.w :=
  ⟨⟨w0.alloc ob, ButO.of_below ((Below.refl _ _).alloc (Nat.le_refl _) ob), World.ownsRow_nil _ w0.heap.size 5 1, (fun g hg => by cases hg), (fun p hp => by
    obtain rfl := List.mem_singleton.1 hp
    exact ⟨heap_new w0 ob rfl, by simp [Value.ownBlock]⟩), (fun p hp => by simp at hp)⟩, rfl⟩
/-- One byte out of a block of its own. -/
theorem GB8.one {w0 : World} {bs : List (Nat × Obj)} {v : Value} {l : List Int} {ops : Array Oper} {rest : List Oper} {o : Oper} {a : Act} {Q : Exit → Act → World → Prop} (S : GB8 w0 bs v l) (sO srcO : Operand)
    (hgd : o.guard = none) (ho : o.op = .call { callee := .builtin .append, args := #[sO, srcO], argTypes := #[24, 24] }) (hs : a.eval sO = v) (x : Int) (hx : a.eval srcO = .slice (some ⟨S.w.heap.size, 0, none⟩) 1 1) (hl : l.length ≤ 100000000)
    (H : ∀ v' (S' : GB8 w0 bs v' (l ++ [x])), wpList Try.prog ops Q rest (a.put o.dst v') S'.w) : wpList Try.prog ops Q (o :: rest) a (S.w.alloc (.cells #[.int .u8 x] 5)) := by
  obtain ⟨E, hE⟩ := elemW8
  obtain ⟨S1, h1⟩ := S.push (.cells #[.int .u8 x] 5 (0, 0))
  have hb := (S1.blocks (S.w.heap.size, .cells #[.int .u8 x] 5 (0, 0)) (by simp)).1
  rw [h1]
  refine Grow.append E S1 sO srcO hgd ho hs ⟨S.w.heap.size, 0, none⟩ 1 1 [.int .u8 x] rfl hx (fun j u hu => ?_) (by simp [Value.oneCell']) (by unfold maxLen; omega) (by rw [hE]; omega) (fun v' S2 => ?_)
  · rw [Addr.add_mid, Nat.zero_add, cell_of hb]
    simpa using hu
  · obtain ⟨S3, h3⟩ := S2.sub (bs' := bs) (fun p hp => List.mem_cons_of_mem _ hp)
    obtain ⟨S4, h4⟩ := S3.conv (n' := (l ++ [x]).length) (xs' := (l ++ [x]).map (Value.int .u8)) (by simp) (by simp)
    rw [h3, h4]
    exact H v' S4
/-- A new zero command. -/
def IsBox5 (base : Nat) : Value → World → Prop := fun v w => ∃ B, v = .pointer (some ⟨B, 0, none⟩) ∧ base ≤ B ∧ w.heap[B]? = some (cmdO 0 0 0 0 (.slice none 0 0))
theorem stable_Box5 (base : Nat) : Stable (fun W W' => Below W.heap.size W W') (IsBox5 base) := fun v w w' ⟨B, h1, h2, h3⟩ hE => ⟨B, h1, h2, (hE.block _ (Array.getElem?_eq_some_iff.1 h3).1).trans h3⟩
/-- A new zero command is written as a whole. -/
theorem Grow.fill5 {w0 : World} {bs : List (Nat × Obj)} {els : List Sl7} {e : TypeId} {size : Nat} {v : Value} {n : Nat} {xs : List Value} (S : Grow w0 none bs els e size v n xs) {W : World} (hW : Below S.w.heap.size S.w W) {B : Nat} (hB : S.w.heap.size ≤ B) {cells old : Array Value} {t : TypeId} (hb : W.heap[B]? = some (.cells old t (0, 0))) :
    ∃ S' : Grow w0 none ((B, .cells cells t (0, 0)) :: bs) els e size v n xs, W.setRow B cells = S'.w := by
  have hbw : Below S.w.heap.size S.w (W.setRow B cells) := below_setRow hW hB _
  exact S.keep (ButO.of_below hbw) _ (List.forall_mem_cons.2 ⟨⟨setRow_heap _ _ _ _ _ _ hb, fun hg => by have := S.ownLt hg; simp only at this; omega⟩, S.held hbw⟩)

theorem newF_step {o : Int} {n : Nat} {l : List Int} {cs : List Cmd} (ho : (l.length : Int) = o) (hv : ValidD o n cs) {k : Nat} (hk : k < n) : ∃ (fi : Nat) (c : Cmd) (i : Nat) (x : Int), findOf cs (k : Int) = fi ∧ cs[fi]? = some c ∧ (k : Int) = c.t + i ∧ (i : Int) < c.w ∧ (c.cont l)[i]? = some x ∧ (newF l n cs).take (k + 1) = (newF l n cs).take k ++ [x] := by
  have hfs := findOf_spec cs (k : Int)
  obtain ⟨j, c0, hj, hh⟩ := (hv.some (k : Int)).1 ⟨by omega, by omega⟩
  have hne : findOf cs (k : Int) ≠ -1 := fun he => hfs.no he c0 (List.mem_of_getElem? hj) hh
  obtain ⟨fi, c, hf, hfc, hc, -⟩ := hfs.yes hne
  have hm := List.mem_of_getElem? hfc
  have hs := hv.all c hm
  have hsb := (single_ok hs).2.1
  have hw := (cont_len ho hs).1
  unfold Cmd.has at hc
  obtain ⟨i, hi⟩ : ∃ i : Nat, (k : Int) = c.t + i := ⟨(k - c.t).toNat, by omega⟩
  have hat := newF_at ho hv hm (i := i) (by omega)
  have hlen : i < (c.cont l).length := by omega
  rw [List.getElem?_eq_getElem hlen, show c.t.toNat + i = k by omega] at hat
  refine ⟨fi, c, i, (c.cont l)[i], hf, hfc, hi, by omega, List.getElem?_eq_getElem hlen, ?_⟩
  rw [List.take_add_one, hat]
  rfl

set_option maxRecDepth 100000 in
set_option maxHeartbeats 4000000 in
theorem rapply8_any (l : List Int) (a : Option Addr) (cap : Nat) (D : Array Value) (o : Int) (n : Nat) (x y : List Int) (ca : Option Addr) (cs : List Cmd) (ccap : Nat) (hD : DeltaOf D o n x y (.slice ca cs.length ccap)) (w : World) (hl : BytesIn w a l cap) (h : CmdsIn w ca cs ccap) (hL : cs.length ≤ 1000000) (hn : n ≤ 1000000) (ho : (l.length : Int) = o) (hv : ValidD o n cs) :
    Calls Try.prog 22 #[.slice a l.length cap, .agg D] w (MakesR 5 ((newF l n cs).map (Value.int .u8)) w) := by
  have hcov := valid_cover8 ho hv
  have HFIND := Lib.hid (fun (z : Int) (W : World) (hW : Below w.heap.size w W) => rfind_any D o n x y ca cs ccap hD z W (h.below hW) (fun c hc => (hcov c hc).1))
  have HLD := Lib.hid (fun (W : World) (hW : W.heap[w.heap.size]? = some (deltaO D)) => load_delta hD hW)
  have HD1 := Lib.hid (fun (W : World) (hW : W.heap[w.heap.size]? = some (deltaO D)) => (cell_of hW 1).trans hD.c1)
  have HD66 := Lib.hid (fun (W : World) (hW : W.heap[w.heap.size]? = some (deltaO D)) => (cell_of hW 66).trans hD.c66)
  have HSTEP := Lib.hid (fun k (hk : k < n) => newF_step ho hv hk)
  have HV := Lib.hid (And.intro ho hv)
  have HC := Lib.hid h
  have HL := Lib.hid hl
  have HLEN := Lib.hid (newF_length l n cs)
  have hccap := h.capb
  have hclen := h.len
  obtain ⟨CC, hCC⟩ : ∃ m, m = cs.length := ⟨_, rfl⟩
  have HCC := Lib.hid hCC
  rw [← hCC] at HD66 hclen hL
  obtain ⟨LL, hLL⟩ : ∃ m, m = l.length := ⟨_, rfl⟩
  have HLL := Lib.hid hLL
  have hlcap := hl.capb
  have hllen := hl.len
  rw [← hLL] at hllen ⊢
  obtain ⟨F, hF⟩ : ∃ F, F = newF l n cs := ⟨_, rfl⟩
  rw [← hF] at HSTEP HLEN ⊢
  obtain ⟨POST, hP⟩ : ∃ P, P = MakesR 5 (F.map (Value.int .u8)) w := ⟨_, rfl⟩
  have HP := Lib.hid hP
  rw [← hP]
  clear hD hl h ho hv hcov hCC hLL hF hP
  go_enter Try.func22, Try.ntmps22
  go_wp2
  obtain ⟨G0, h0⟩ := GB8.start w (deltaO D)
  rw [h0]
  clear h0
  go_loopw [5, 6] (fun v i wr => ∃ k : Nat, k ≤ n ∧ i = .int .i64 k ∧ ∃ m : List Int, Hid (m = F.take k) ∧ ∃ G : GB8 w [(w.heap.size, deltaO D)] v m, wr = G.w) (fun _ i _ => n - (intOf i).toNat)
  case atStart => exact ⟨0, by omega, rfl, [], Lib.hid (by simp), G0, rfl⟩
  case round =>
    clear G0
    obtain ⟨k, hk, rfl, m, hm, G, rfl⟩ := hrel
    have hml : m.length ≤ 1000000 := by rw [hm.out, List.length_take]; omega
    have hg := (G.blocks (w.heap.size, deltaO D) (by simp)).1
    have hg1 := HD1.out _ hg
    by_cases hlt : k < n
    · obtain ⟨fi, c, i, xb, hfi, hci, hki, hiw, hxb, htk⟩ := HSTEP.out k hlt
      have hcm := List.mem_of_getElem? hci
      have hs0 := HV.out.2.all c hcm
      have hsb := (single_ok hs0).2.1
      have hlens := HV.out.2.lens
      unfold LensBad at hlens
      have hfic : fi < CC := by rw [HCC.out]; exact (List.getElem?_eq_some_iff.1 hci).1
      have HTK := Lib.hid htk
      have HFI := Lib.hid hfi
      have HGB := Lib.hid (show ∀ W, Below G.w.heap.size G.w W → Below w.heap.size w W from fun W hW => G.but.below.trans (hW.mono G.but.size))
      have HGH := Lib.hid (show ∀ W, Below G.w.heap.size G.w W → W.heap[w.heap.size]? = some (deltaO D) from fun W hW => heap_below hg hW)
      obtain ⟨b, oo, rfl, x0, x1, x2, x3, x4⟩ := HC.out.at hci
      have HX : Hid (∀ W, Below G.w.heap.size G.w W → W.cell? ⟨b, oo + fi * 5, none⟩ = some (.int .i64 c.k) ∧ W.cell? ⟨b, oo + fi * 5 + 1, none⟩ = some (.int .i64 c.t) ∧ W.cell? ⟨b, oo + fi * 5 + 2, none⟩ = some (.int .i64 c.f) ∧ W.cell? ⟨b, oo + fi * 5 + 3, none⟩ = some (.int .i64 c.n) ∧ W.cell? ⟨b, oo + fi * 5 + 4, none⟩ = some (.slice c.a c.l.length c.cap)) := Lib.hid fun W hW => by
        have hb := HGB.out W hW
        exact ⟨(hb.cell (World.block_lt_of_cell? _ _ x0)).trans x0, (hb.cell (World.block_lt_of_cell? _ _ x1)).trans x1, (hb.cell (World.block_lt_of_cell? _ _ x2)).trans x2, (hb.cell (World.block_lt_of_cell? _ _ x3)).trans x3, (hb.cell (World.block_lt_of_cell? _ _ x4)).trans x4⟩
      have HKI := Lib.hid (And.intro hki (And.intro hiw (And.intro hxb hsb)))
      clear hfi htk hg x0 x1 x2 x3 x4 hki hiw hxb hsb
      go_wp2_with fail
      clear hg1
      have HFC := Lib.hid hfic
      refine wp_region_looseT 8
        [IsV (.pointer (some ⟨w.heap.size, 66, none⟩)), IsV (.slice (some ⟨b, oo, none⟩) CC ccap), IsV (.agg D), IsV (.int .i64 (k : Int)), IsV (.int .i64 (fi : Int)), IsV (.pointer (some ⟨b, oo + fi * 5, none⟩)), IsV (cmdV c.k c.t c.f c.n (.slice c.a c.l.length c.cap)), IsBox5 G.w.heap.size]
        [⟨14, [], [3]⟩, ⟨15, [(0, 14)], []⟩, ⟨16, [], [3]⟩, ⟨17, [], [6]⟩, ⟨18, [(2, 16), (3, 17)], []⟩, ⟨19, [(1, 15), (4, 18)], []⟩, ⟨20, [(5, 19)], []⟩, ⟨7, [], []⟩]
        (fun W => Below G.w.heap.size G.w W) (fun W W' => Below W.heap.size W W') (by kernel_rfl) (by kernel_rfl) (by kernel_rfl) rfl rfl (Below.refl _ G.w).drew ?_
        ⟨?_, ?_, ?_, ?_, ?_, ?_, ?_, ?_, trivial⟩ ?_
      · repeat (first | (intro _ h; cases h; done) | refine List.forall_mem_cons.2 ⟨stable_V _ _, ?_⟩ | refine List.forall_mem_cons.2 ⟨stable_Box5 _, ?_⟩)
      · intro A W hC hd hx
        have hk : ∀ v, A.eval (.const v) = v := fun _ => rfl
        have hy0 : A.eval (.tmp 3) = .pointer (some ⟨w.heap.size, 0, none⟩) := hx 3 (by simp)
        clear hd
        generalize A.eval = ρ at hk hy0 ⊢
        simp [go_sem, looseUpon, factOf, hk, hy0]
        exact ⟨hC, Below.refl _ _⟩
      · intro A W hC hd hx
        have hk : ∀ v, A.eval (.const v) = v := fun _ => rfl
        have c0 := HD66.out W (HGH.out W hC)
        simp [factOf] at hd
        generalize A.eval = ρ at hd hk ⊢
        simp [go_sem, looseUpon, factOf, hd, hk, c0]
        exact ⟨hC, Below.refl _ _⟩
      · intro A W hC hd hx
        have hy0 : A.eval (.tmp 3) = .pointer (some ⟨w.heap.size, 0, none⟩) := hx 3 (by simp)
        have hld := HLD.out W (HGH.out W hC)
        refine ⟨fun g hg => (by cases hg), ?_⟩
        clear hd
        generalize A.eval = ρ at hy0 ⊢
        simp [execOp, hy0, hld, looseUpon, factOf]
        exact ⟨hC, Below.refl _ _⟩
      · intro A W hC hd hx
        have hk : ∀ v, A.eval (.const v) = v := fun _ => rfl
        have hy0 : A.eval (.tmp 6) = .int .i64 (k : Int) := hx 6 (by simp)
        clear hd
        generalize A.eval = ρ at hk hy0 ⊢
        simp [go_sem, looseUpon, factOf, hk, hy0]
        exact ⟨hC, Below.refl _ _⟩
      · intro A W hC hd hx
        simp [factOf] at hd
        obtain ⟨hd0, hd1⟩ := hd
        refine ⟨fun g hg => (by cases hg), ?_⟩
        refine loose_call rfl Try.func45 (by kernel_rfl) (by kernel_rfl) ?_
        simp only [List.map_toArray, List.map_cons, List.map_nil, hd0, hd1]
        have hw := HFIND.out (k : Int) W (HGB.out W hC)
        rw [HFI.out] at hw
        refine hw.mono ?_
        rintro e' W' ⟨rfl, h4⟩
        exact ⟨_, rfl, rfl, hC.trans (h4.mono hC.size), h4⟩
      · intro A W hC hd hx
        have hk : ∀ v, A.eval (.const v) = v := fun _ => rfl
        have c0 := HFC.out
        simp [factOf] at hd
        generalize A.eval = ρ at hd hk ⊢
        simp [go_sem, looseUpon, factOf, hd, hk, c0]
        exact ⟨hC, Below.refl _ _⟩
      · intro A W hC hd hx
        have hk : ∀ v, A.eval (.const v) = v := fun _ => rfl
        have c0 := (HX.out W hC).1
        have c1 := (HX.out W hC).2.1
        have c2 := (HX.out W hC).2.2.1
        have c3 := (HX.out W hC).2.2.2.1
        have c4 := (HX.out W hC).2.2.2.2
        simp [factOf] at hd
        generalize A.eval = ρ at hd hk ⊢
        simp [go_sem, looseUpon, factOf, hd, hk, c0, c1, c2, c3, c4]
        exact ⟨hC, Below.refl _ _⟩
      · intro A W hC hd hx
        have hk : ∀ v, A.eval (.const v) = v := fun _ => rfl
        clear hd
        generalize A.eval = ρ at hk ⊢
        simp [go_sem, looseUpon, factOf, hk]
        exact ⟨⟨_, rfl, hC.size, World.alloc_heap_new _ _⟩, hC.alloc hC.size _, (Below.refl _ _).alloc (Nat.le_refl _) _⟩
      · intro W hC
        simp only [ends]
        rintro _ rfl _ rfl _ rfl _ rfl _ rfl _ rfl _ rfl _ ⟨B, rfl, hB, hbz⟩
        simp only [putAll, List.zip_cons_cons, List.zip_nil_left, List.foldl_cons, List.foldl_nil, Act.put, List.setIfInBounds_toArray, List.set_cons_succ, List.set_cons_zero, List.drop_succ_cons, List.drop_zero]
        obtain ⟨G2, hG2⟩ := G.fill5 hC hB (cells := #[.int .i64 c.k, .int .i64 c.t, .int .i64 c.f, .int .i64 c.n, .slice c.a c.l.length c.cap]) hbz
        have HG2 := Lib.hid hG2
        clear hG2
        obtain ⟨hki, hiw, hxb, hsb⟩ := HKI.out
        have hcont := hxb
        unfold Cmd.cont contC Cmd.core at hcont
        simp only at hcont
        have hww : Hid (Below w.heap.size w G2.w) := Lib.hid G2.but.below
        have HNX := Lib.hid (show m ++ [xb] = F.take (k + 1) by rw [HTK.out, hm.out])
        have HCB := Lib.hid ((HC.out.ok c hcm).b)
        have hk12 := (cont_len HV.out.1 hs0).2
        have hcd := cmd_cells (G2.blocks (B, cmdO c.k c.t c.f c.n (.slice c.a c.l.length c.cap)) (by simp)).1
        dsimp only at hcd
        have hg2 := (G2.blocks (w.heap.size, deltaO D) (by simp)).1
        have hinf : (Try.prog.info? 26).map (·.size) = some (#[.int .i64 c.k, .int .i64 c.t, .int .i64 c.f, .int .i64 c.n, .slice c.a c.l.length c.cap] : Array Value).size := by
          show _ = some 5
          kernel_rfl
        have hone : (#[.int .i64 c.k, .int .i64 c.t, .int .i64 c.f, .int .i64 c.n, .slice c.a c.l.length c.cap] : Array Value).all (·.oneCell') = true := by simp [Value.oneCell']
        have hsz : (#[.int .i64 0, .int .i64 0, .int .i64 0, .int .i64 0, .slice none 0 0] : Array Value).size = (#[.int .i64 c.k, .int .i64 c.t, .int .i64 c.f, .int .i64 c.n, .slice c.a c.l.length c.cap] : Array Value).size := rfl
        rcases hk12 with hk | hk
        · obtain ⟨q1, q2⟩ := (single_ok hs0).2.2 hk
          rw [if_pos hk] at hcont
          have hwn : c.w = c.n := by unfold Cmd.w wlen; rw [if_pos hk]
          have hll : (LL : Int) = o := by rw [HLL.out]; exact HV.out.1
          obtain ⟨j, hj⟩ : ∃ j : Nat, j = c.f.toNat + i := ⟨_, rfl⟩
          have hjl : j < LL := by omega
          rw [List.getElem?_take, if_pos (by omega), List.getElem?_drop, ← hj] at hcont
          obtain ⟨bA, oA, rfl, hcA⟩ := HL.out.cells (by rw [← HLL.out]; omega)
          have hcj := hcA j (by rw [← HLL.out]; exact hjl)
          rw [hcont] at hcj
          have d5 : G2.w.cell? ⟨bA, oA + j, none⟩ = some (.int .u8 xb) := (hww.out.cell (World.block_lt_of_cell? _ _ hcj)).trans hcj
          have e1 : (c.k == 1) = true := by rw [hk]; rfl
          have e32 : c.f + (k : Int) - c.t = (j : Int) := by omega
          have hb1 : c.f ≤ 4611686018427387903 := by omega
          have hb2 : 0 ≤ c.t := by omega
          have hb3 : c.t ≤ 4611686018427387903 := by omega
          obtain ⟨d0, d1, d2, d3, d4⟩ := hcd
          clear hcont hcj hcA hj hki hiw hxb hsb hk hwn hll hs0 hlens q2
          refine wpList_store_rowTo rfl 26 (.tmp 7) (.tmp 20) rfl rfl B #[.int .i64 c.k, .int .i64 c.t, .int .i64 c.f, .int .i64 c.n, .slice c.a c.l.length c.cap] rfl rfl 26 #[.int .i64 0, .int .i64 0, .int .i64 0, .int .i64 0, .slice none 0 0] hbz hinf hsz hone ?_
          rw [HG2.out]
          go_wp2_with ((refine GB8.one G2 (.tmp 24) (.tmp 35) rfl rfl rfl xb rfl (by omega) ?_; intro v' G3))
          obtain ⟨G4, h4⟩ := G3.sub (bs' := [(w.heap.size, deltaO D)]) (by simp)
          have H4 := Lib.hid h4
          clear d0 d1 d2 d3 d4 d5 h4
          go_roundw
          case rel => exact ⟨k + 1, by omega, by go_num, _, HNX, G4, H4.out⟩
          case measure => simp [intOf]; omega
        · rw [if_neg (by omega)] at hcont
          have hil := (List.getElem?_eq_some_iff.1 hcont).1
          obtain ⟨bA, oA, hca, hcA⟩ := HCB.out.cells (by omega)
          have hcj := hcA i hil
          rw [hcont] at hcj
          have d5 : G2.w.cell? ⟨bA, oA + i, none⟩ = some (.int .u8 xb) := (hww.out.cell (World.block_lt_of_cell? _ _ hcj)).trans hcj
          have e1 : (c.k == 1) = false := by rw [hk]; rfl
          have e43 : (k : Int) - c.t = (i : Int) := by omega
          have hb2 : 0 ≤ c.t := by omega
          have hb3 : c.t ≤ 4611686018427387903 := by omega
          have hcl := HCB.out.len
          obtain ⟨d0, d1, d2, d3, d4⟩ := hcd
          replace d4 : G2.w.cell? ⟨B, 4, none⟩ = some (.slice (some ⟨bA, oA, none⟩) c.l.length c.cap) := d4.trans (by rw [hca])
          have hcc := HCB.out.capb
          clear hcont hcj hcA hki hiw hxb hsb hk hs0 hlens
          refine wpList_store_rowTo rfl 26 (.tmp 7) (.tmp 20) rfl rfl B #[.int .i64 c.k, .int .i64 c.t, .int .i64 c.f, .int .i64 c.n, .slice c.a c.l.length c.cap] rfl rfl 26 #[.int .i64 0, .int .i64 0, .int .i64 0, .int .i64 0, .slice none 0 0] hbz hinf hsz hone ?_
          rw [HG2.out]
          go_wp2_with ((refine GB8.one G2 (.tmp 37) (.tmp 46) rfl rfl rfl xb rfl (by omega) ?_; intro v' G3))
          obtain ⟨G4, h4⟩ := G3.sub (bs' := [(w.heap.size, deltaO D)]) (by simp)
          have H4 := Lib.hid h4
          clear d0 d1 d2 d3 d4 d5 h4
          go_roundw
          case rel => exact ⟨k + 1, by omega, by go_num, _, HNX, G4, H4.out⟩
          case measure => simp [intOf]; omega
    · obtain rfl : k = n := by omega
      have hmF : m = F := by rw [hm.out, ← HLEN.out, List.take_length]
      have HQ : Hid (POST (.returned u5) G.w) := Lib.hid (by
        rw [HP.out, ← hmF]
        exact ⟨u5, rfl, ⟨G.w, G.but.below, by have := G.own; rw [List.length_map]; exact this⟩, rfl⟩)
      clear hmF
      go_wp2
      exact HQ.out
end Go.Proofs.Ytgmjppjgbalapaa

/- Of of package tidy. -/
namespace Go.Proofs.Ytgmjppjgbalapaa
open Go.RowKit Go.Proofs.Ytgmjppjgbalapaa.Plain01
set_option linter.unusedVariables false
set_option linter.unusedSimpArgs false

set_option maxRecDepth 100000 in
set_option maxHeartbeats 8000000 in
theorem of9_no (D : Array Value) (o : Int) (n : Nat) (x y : List Int) (ca : Option Addr) (cs : List Cmd) (ccap : Nat) (hD : DeltaOf D o n x y (.slice ca cs.length ccap)) (off : Int) (w : World) (h : CmdsIn w ca cs ccap) (hv : ValidD o n cs) (hoff : ¬ (0 ≤ off ∧ off < (n : Int))) :
    Calls Try.prog 25 #[.agg D, .int .i64 off] w (Gives (.tuple #[.agg (orgA false 0 0), .bool false]) w) := by
  obtain ⟨S, hS⟩ := start2 w (deltaO D) (orgO false 0 0)
  have hcov : ∀ c ∈ cs, okE c.tgt = true ∧ (c.k = 1 ∨ c.k = 2) := fun c hc => by
    have hg := good_ok (single_good (hv.all c hc) (by have := hv.lens; unfold LensBad at this; omega))
    exact ⟨hg.1, hg.2.1⟩
  have hfi := dfind_any D o n x y ca cs ccap hD off S.w (h.W S) hcov
  have hr : findOf cs off = -1 := Classical.byContradiction fun hne => by
    obtain ⟨k, c, _, hk, hh, _⟩ := (findOf_spec cs off).yes hne
    exact hoff ((hv.some off).2 ⟨k, c, hk, hh⟩)
  rw [hr] at hfi
  have hinf := infoDelta hD
  have hg : ((w.alloc (deltaO D)).alloc (orgO false 0 0)).heap[w.heap.size]? = some (deltaO D) := heap_old (heap_new w _ rfl) _
  have HS := Lib.hid hS
  have hsz := org_size false 0 0
  have hone := org_one false 0 0
  clear hS hD h hv hoff hr hcov
  go_enter Try.func25, Try.ntmps25
  go_wp2_with (refine wpList_load_row rfl 34 (.tmp 2) rfl w.heap.size rfl 34 _ (0, 0) _ hg Try.underlying34 rfl hinf ?_)
  rw [HS.out]
  clear hg
  refine (HeldW.call hfi).mono ?_
  rintro e _ ⟨rfl, s2, rfl⟩
  have hst := s2.blocks (w.heap.size + 1, orgO false 0 0) (by simp)
  dsimp only at hst
  have HBW := Lib.hid (show Below w.heap.size w (s2.w.setRow (w.heap.size + 1) (orgA false 0 0)) from below_setRow s2.below (by omega) _)
  have hhp : (s2.w.setRow (w.heap.size + 1) (orgA false 0 0)).heap[w.heap.size + 1]? = some (orgO false 0 0) := setRow_heap _ _ _ _ _ _ hst
  have r0 := cell_of hhp 0
  have r1 := cell_of hhp 1
  have r2 := cell_of hhp 2
  have HR0 := Lib.hid (And.intro r0 (And.intro r1 r2))
  clear hfi hhp r0 r1 r2
  go_wp2_with (refine wpList_store_rowTo rfl 47 (.tmp 4) (.tmp 13) rfl rfl (w.heap.size + 1) (orgA false 0 0) rfl rfl 47 (orgA false 0 0) hst hsz rfl hone ?_)
  obtain ⟨r0, r1, r2⟩ := HR0.out
  refine bodyPost_ret (v := .tuple #[.agg (orgA false 0 0), .bool false]) (by simp [results, Try.results25, go_sem, r0, r1, r2]) rfl ⟨rfl, HBW.out⟩

set_option maxRecDepth 100000 in
set_option maxHeartbeats 8000000 in
theorem of9_yes (D : Array Value) (o : Int) (n : Nat) (x y : List Int) (ca : Option Addr) (cs : List Cmd) (ccap : Nat) (hD : DeltaOf D o n x y (.slice ca cs.length ccap)) (off : Nat) (c : Cmd) (fi : Nat) (w : World) (h : CmdsIn w ca cs ccap) (hL : cs.length ≤ 1000000) (hv : ValidD o n cs) (hf : findOf cs (off : Int) = fi) (hc : cs[fi]? = some c) (hh : c.has off) :
    Calls Try.prog 25 #[.agg D, .int .i64 (off : Int)] w (Gives (.tuple #[.agg (orgOf c ((off : Int) - c.t)), .bool true]) w) := by
  obtain ⟨S, hS⟩ := start2 w (deltaO D) (orgO false 0 0)
  have hnb : (n : Int) ≤ 4611686018427387903 := by have := hv.lens; unfold LensBad at this; omega
  have hcov : ∀ c ∈ cs, okE c.tgt = true ∧ (c.k = 1 ∨ c.k = 2) := fun c hc => by
    have hg := good_ok (single_good (hv.all c hc) hnb)
    exact ⟨hg.1, hg.2.1⟩
  have hfi := dfind_any D o n x y ca cs ccap hD (off : Int) S.w (h.W S) hcov
  rw [hf] at hfi
  have hcm := List.mem_of_getElem? hc
  have hgc := single_good (hv.all c hcm) hnb
  have hsb := (single_ok (hv.all c hcm)).2.1
  unfold Cmd.has at hh
  obtain ⟨i, hi⟩ : ∃ i : Nat, (off : Int) - c.t = i := ⟨((off : Int) - c.t).toNat, by omega⟩
  have HOR := Lib.hid (fun (W : World) (hW : Below w.heap.size w W) => origin_any c i W ((h.ok c hcm).below hW) hgc (by omega))
  rw [hi]
  rw [orgOf_eq] at HOR ⊢
  generalize orgB c = q1 at *
  generalize orgF c i = q2 at *
  generalize orgX c i = q3 at *
  have hinf := infoDelta hD
  have hg : ((w.alloc (deltaO D)).alloc (orgO false 0 0)).heap[w.heap.size]? = some (deltaO D) := heap_old (heap_new w _ rfl) _
  have HC := Lib.hid h
  have HD := Lib.hid hD
  have HS := Lib.hid hS
  have hsz := org_size q1 q2 q3
  have hone := org_one q1 q2 q3
  have HHC := Lib.hid hc
  have hfl : fi < cs.length := (List.getElem?_eq_some_iff.1 hc).1
  have hcap1 := h.len
  have hcap2 := h.capb
  obtain ⟨CC, hCC⟩ : ∃ CC, CC = cs.length := ⟨_, rfl⟩
  rw [← hCC] at hfl hcap1 hL HD
  have ht0 : 0 ≤ c.t := by omega
  have ht1 : c.t ≤ 4611686018427387903 := by omega
  have ho1 : off ≤ 4611686018427387903 := by omega
  clear hS hD h hv hf hcov hc hCC hcm hgc hsb hh hnb
  go_enter Try.func25, Try.ntmps25
  go_wp2_with (refine wpList_load_row rfl 34 (.tmp 2) rfl w.heap.size rfl 34 _ (0, 0) _ hg Try.underlying34 rfl hinf ?_)
  rw [HS.out]
  clear hg
  refine (HeldW.call hfi).mono ?_
  rintro e _ ⟨rfl, s2, rfl⟩
  have c66 : s2.w.cell? ⟨w.heap.size, 66, none⟩ = some (.slice ca CC ccap) := (cell_of (s2.blocks (w.heap.size, deltaO D) (by simp)) 66).trans HD.out.c66
  obtain ⟨b, oo, rfl, x0, x1, x2, x3, x4⟩ := (HC.out.W s2).at HHC.out
  obtain ⟨B, s3, hB, hB0, hlt, hS3⟩ := s2.more1 (cmdO c.k c.t c.f c.n (.slice c.a c.l.length c.cap))
  have HS3 := Lib.hid (And.intro hS3 hB)
  clear hfi hS3 hB hlt
  go_wp2_with fail
  rw [HS3.out.1]
  refine (HeldW.call (HOR.out s3.w s3.below)).mono ?_
  rintro e _ ⟨rfl, s4, rfl⟩
  have hst := s4.blocks (w.heap.size + 1, orgO false 0 0) (by simp)
  dsimp only at hst
  have HBW := Lib.hid (show Below w.heap.size w (s4.w.setRow (w.heap.size + 1) (orgA q1 q2 q3)) from below_setRow s4.below (by omega) _)
  have hhp : (s4.w.setRow (w.heap.size + 1) (orgA q1 q2 q3)).heap[w.heap.size + 1]? = some (orgO q1 q2 q3) := setRow_heap _ _ _ _ _ _ hst
  have r0 := cell_of hhp 0
  have r1 := cell_of hhp 1
  have r2 := cell_of hhp 2
  have HR0 := Lib.hid (And.intro r0 (And.intro r1 r2))
  clear hhp r0 r1 r2 x0 x1 x2 x3 x4 c66
  go_wp2_with (refine wpList_store_rowTo rfl 47 (.tmp 4) (.tmp 24) rfl rfl (w.heap.size + 1) (orgA q1 q2 q3) rfl rfl 47 (orgA false 0 0) hst hsz rfl hone ?_)
  obtain ⟨r0, r1, r2⟩ := HR0.out
  refine bodyPost_ret (v := .tuple #[.agg (orgA q1 q2 q3), .bool true]) (by simp [results, Try.results25, go_sem, r0, r1, r2]) rfl ⟨rfl, HBW.out⟩
end Go.Proofs.Ytgmjppjgbalapaa

/- Small and Of of the reference of package tidy. -/
namespace Go.Proofs.Ytgmjppjgbalapaa
open Go.RowKit Go.Proofs.Ytgmjppjgbalapaa.Plain01
set_option linter.unusedVariables false
set_option linter.unusedSimpArgs false

/-- What Small asks. -/
def SmallD (o n : Int) (cs : List Cmd) : Prop := (FewD cs ∧ n ≤ 1000) ∧ (faultOf o n cs).1 = 0
noncomputable instance (o n : Int) (cs : List Cmd) : Decidable (SmallD o n cs) := by unfold SmallD; infer_instance
set_option maxRecDepth 100000 in
set_option maxHeartbeats 4000000 in
theorem rsmall9_any (D : Array Value) (o n : Int) (x y : List Int) (ca : Option Addr) (cs : List Cmd) (ccap : Nat) (hD : DeltaOf D o n x y (.slice ca cs.length ccap)) (w : World) (h : CmdsIn w ca cs ccap) :
    Calls Try.prog 13 #[.agg D] w (Gives (.bool (decide (SmallD o n cs))) w) := by
  obtain ⟨S, hS⟩ := start1 w (deltaO D)
  have hc := few_any D o n x y ca cs ccap hD S.w (h.W S)
  have HV := Lib.hid (fun s : HeldW w [(w.heap.size, deltaO D)] => rdvalid_any D o n x y ca cs ccap hD s.w (h.W s))
  have HG := Lib.hid (fun s : HeldW w [(w.heap.size, deltaO D)] => s.blocks (w.heap.size, deltaO D) (by simp))
  have HC := Lib.hid (fun s : HeldW w [(w.heap.size, deltaO D)] => (cell_of (s.blocks (w.heap.size, deltaO D) (by simp)) 1).trans hD.c1)
  have hinf := infoDelta hD
  have hg : (w.alloc (deltaO D)).heap[w.heap.size]? = some (deltaO D) := heap_new w _ rfl
  have HS := Lib.hid hS
  obtain ⟨POST, hP⟩ : ∃ P : Ending → World → Prop, P = Gives (.bool (decide (SmallD o n cs))) w := ⟨_, rfl⟩
  have HQ : Hid (∀ (s : HeldW w [(w.heap.size, deltaO D)]) (r : Bool), (r = true ↔ SmallD o n cs) → POST (.returned (.bool r)) s.w) := Lib.hid fun s r hr => by
    rw [hP, show decide (SmallD o n cs) = r by cases r <;> simp at hr ⊢ <;> exact hr]; exact ⟨rfl, s.below⟩
  rw [← hP]
  unfold SmallD at HQ
  by_cases h1 : FewD cs
  · rw [decide_eq_true h1] at hc
    by_cases h2 : n ≤ 1000
    · have HQ2 : Hid (∀ (s : HeldW w [(w.heap.size, deltaO D)]), POST (.returned (.bool (decide ((faultOf o n cs).1 = 0)))) s.w) := Lib.hid fun s => HQ.out s _ (by simp [h1, h2])
      generalize FewD cs = F1 at *
      generalize decide ((faultOf o n cs).1 = 0) = F2 at *
      have e2 : decide (n ≤ 1000) = true := decide_eq_true h2
      clear hD h hP hS HQ h1 h2
      go_enter Try.func13, Try.ntmps13
      go_wp2_with (refine wpList_load_row rfl 34 (.tmp 1) rfl w.heap.size rfl 34 _ (0, 0) _ hg Try.underlying34 rfl hinf ?_)
      rw [HS.out]
      clear hg
      refine (HeldW.call hc).mono ?_
      rintro e _ ⟨rfl, s2, rfl⟩
      have hg := HG.out s2
      have c1 := HC.out s2
      go_wp2_with (refine wpList_load_rowG rfl 34 (.tmp 1) rfl (some 11) rfl w.heap.size rfl 34 _ (0, 0) _ hg Try.underlying34 rfl hinf ?_)
      refine (HeldW.call (HV.out s2)).mono ?_
      rintro e _ ⟨rfl, s3, rfl⟩
      have HR := Lib.hid (HQ2.out s3)
      clear hg hc c1
      go_wp2
      exact HR.out
    · have HQ2 : Hid (∀ (s : HeldW w [(w.heap.size, deltaO D)]), POST (.returned (.bool false)) s.w) := Lib.hid fun s => HQ.out s false (by simp [h2])
      generalize FewD cs = F1 at *
      have e2 : decide (n ≤ 1000) = false := decide_eq_false h2
      clear hD h hP hS HQ h1 h2 HV
      go_enter Try.func13, Try.ntmps13
      go_wp2_with (refine wpList_load_row rfl 34 (.tmp 1) rfl w.heap.size rfl 34 _ (0, 0) _ hg Try.underlying34 rfl hinf ?_)
      rw [HS.out]
      clear hg
      refine (HeldW.call hc).mono ?_
      rintro e _ ⟨rfl, s2, rfl⟩
      have c1 := HC.out s2
      have HR := Lib.hid (HQ2.out s2)
      clear hc
      go_wp2
      exact HR.out
  · rw [decide_eq_false h1] at hc
    have HQ2 : Hid (∀ (s : HeldW w [(w.heap.size, deltaO D)]), POST (.returned (.bool false)) s.w) := Lib.hid fun s => HQ.out s false (by simp [h1])
    generalize FewD cs = F1 at *
    clear hD h hP hS HQ h1 HV
    go_enter Try.func13, Try.ntmps13
    go_wp2_with (refine wpList_load_row rfl 34 (.tmp 1) rfl w.heap.size rfl 34 _ (0, 0) _ hg Try.underlying34 rfl hinf ?_)
    rw [HS.out]
    clear hg
    refine (HeldW.call hc).mono ?_
    rintro e _ ⟨rfl, s2, rfl⟩
    have HR := Lib.hid (HQ2.out s2)
    clear hc
    go_wp2
    exact HR.out

abbrev rorgO (b : Bool) (f v : Int) : Obj := .cells (orgA b f v) 62 (0, 0)
theorem rorg_size (b : Bool) (f v : Int) : (Try.prog.info? 62).map (·.size) = some (orgA b f v).size := by
  show _ = some 3
  kernel_rfl
set_option maxRecDepth 100000 in
set_option maxHeartbeats 8000000 in
theorem rof9_any (D : Array Value) (o : Int) (n : Nat) (x y : List Int) (ca : Option Addr) (cs : List Cmd) (ccap : Nat) (hD : DeltaOf D o n x y (.slice ca cs.length ccap)) (off : Nat) (c : Cmd) (fi : Nat) (w : World) (h : CmdsIn w ca cs ccap) (hL : cs.length ≤ 1000000) (hv : ValidD o n cs) (hf : findOf cs (off : Int) = fi) (hci : cs[fi]? = some c) (hh : c.has off) :
    Calls Try.prog 42 #[.agg D, .int .i64 (off : Int)] w (Gives (.agg (orgOf c ((off : Int) - c.t))) w) := by
  obtain ⟨S, hS⟩ := start2 w (deltaO D) (rorgO false 0 0)
  have hnb : (n : Int) ≤ 4611686018427387903 := by have := hv.lens; unfold LensBad at this; omega
  have hcov : ∀ c ∈ cs, okE c.tgt = true := fun c hc => (good_ok (single_good (hv.all c hc) hnb)).1
  have HFIND := Lib.hid (fun (W : World) (hW : Below w.heap.size w W) => by
    have := rfind_any D o n x y ca cs ccap hD (off : Int) W (h.below hW) hcov
    rw [hf] at this
    exact this)
  have HLD := Lib.hid (fun (W : World) (hW : W.heap[w.heap.size]? = some (deltaO D)) => load_delta hD hW)
  have HD66 := Lib.hid (fun (W : World) (hW : W.heap[w.heap.size]? = some (deltaO D)) => (cell_of hW 66).trans hD.c66)
  have hcm := List.mem_of_getElem? hci
  have hgc := single_good (hv.all c hcm) hnb
  have hkk := (good_ok hgc).2.1
  have hsb := (single_ok (hv.all c hcm)).2.1
  unfold Cmd.has at hh
  obtain ⟨i, hi⟩ : ∃ i : Nat, (off : Int) - c.t = i := ⟨((off : Int) - c.t).toNat, by omega⟩
  rw [hi]
  have hfl : fi < cs.length := (List.getElem?_eq_some_iff.1 hci).1
  have hcap1 := h.len
  have hcap2 := h.capb
  have HB := Lib.hid (h.ok c hcm).b
  obtain ⟨b, oo, rfl, x0, x1, x2, x3, x4⟩ := h.at hci
  obtain ⟨CC, hCC⟩ : ∃ CC, CC = cs.length := ⟨_, rfl⟩
  rw [← hCC] at hfl hcap1 hL HD66
  have ht0 : 0 ≤ c.t := by omega
  have ht1 : c.t ≤ 4611686018427387903 := by omega
  have ho1 : off ≤ 4611686018427387903 := by omega
  have HX : Hid (∀ W, Below w.heap.size w W → W.cell? ⟨b, oo + fi * 5, none⟩ = some (.int .i64 c.k) ∧ W.cell? ⟨b, oo + fi * 5 + 1, none⟩ = some (.int .i64 c.t) ∧ W.cell? ⟨b, oo + fi * 5 + 2, none⟩ = some (.int .i64 c.f) ∧ W.cell? ⟨b, oo + fi * 5 + 3, none⟩ = some (.int .i64 c.n) ∧ W.cell? ⟨b, oo + fi * 5 + 4, none⟩ = some (.slice c.a c.l.length c.cap)) := Lib.hid fun W hb =>
    ⟨(hb.cell (World.block_lt_of_cell? _ _ x0)).trans x0, (hb.cell (World.block_lt_of_cell? _ _ x1)).trans x1, (hb.cell (World.block_lt_of_cell? _ _ x2)).trans x2, (hb.cell (World.block_lt_of_cell? _ _ x3)).trans x3, (hb.cell (World.block_lt_of_cell? _ _ x4)).trans x4⟩
  have HS := Lib.hid hS
  have HK := Lib.hid (And.intro hkk (And.intro hgc (And.intro hi (And.intro hh hsb))))
  have HGB := Lib.hid (fun (W : World) (hW : Below S.w.heap.size S.w W) => S.below.trans (hW.mono S.below.size))
  have HGH := Lib.hid (fun (W : World) (hW : Below S.w.heap.size S.w W) => heap_below (S.blocks (w.heap.size, deltaO D) (by simp)) hW)
  have HFC := Lib.hid hfl
  clear hS hD h hv hf hcov hci hCC hcm hgc hsb hh hnb hi hkk x0 x1 x2 x3 x4 hfl
  go_enter Try.func42, Try.ntmps42
  go_wp2_with fail
  rw [HS.out]
  refine wp_region_looseT 8
    [IsV (.pointer (some ⟨w.heap.size, 66, none⟩)), IsV (.slice (some ⟨b, oo, none⟩) CC ccap), IsV (.agg D), IsV (.int .i64 (off : Int)), IsV (.int .i64 (fi : Int)), IsV (.pointer (some ⟨b, oo + fi * 5, none⟩)), IsV (cmdV c.k c.t c.f c.n (.slice c.a c.l.length c.cap)), IsBox5 S.w.heap.size]
    [⟨6, [], [2]⟩, ⟨7, [(0, 6)], []⟩, ⟨8, [], [2]⟩, ⟨9, [], [1]⟩, ⟨10, [(2, 8), (3, 9)], []⟩, ⟨11, [(1, 7), (4, 10)], []⟩, ⟨12, [(5, 11)], []⟩, ⟨5, [], []⟩]
    (fun W => Below S.w.heap.size S.w W) (fun W W' => Below W.heap.size W W') (by kernel_rfl) (by kernel_rfl) (by kernel_rfl) rfl rfl (Below.refl _ S.w).drew ?_
    ⟨?_, ?_, ?_, ?_, ?_, ?_, ?_, ?_, trivial⟩ ?_
  · repeat (first | (intro _ h; cases h; done) | refine List.forall_mem_cons.2 ⟨stable_V _ _, ?_⟩ | refine List.forall_mem_cons.2 ⟨stable_Box5 _, ?_⟩)
  · intro A W hC hd hx
    have hk : ∀ v, A.eval (.const v) = v := fun _ => rfl
    have hy0 : A.eval (.tmp 2) = .pointer (some ⟨w.heap.size, 0, none⟩) := hx 2 (by simp)
    clear hd
    generalize A.eval = ρ at hk hy0 ⊢
    simp [go_sem, looseUpon, factOf, hk, hy0]
    exact ⟨hC, Below.refl _ _⟩
  · intro A W hC hd hx
    have hk : ∀ v, A.eval (.const v) = v := fun _ => rfl
    have c0 := HD66.out W (HGH.out W hC)
    simp [factOf] at hd
    generalize A.eval = ρ at hd hk ⊢
    simp [go_sem, looseUpon, factOf, hd, hk, c0]
    exact ⟨hC, Below.refl _ _⟩
  · intro A W hC hd hx
    have hy0 : A.eval (.tmp 2) = .pointer (some ⟨w.heap.size, 0, none⟩) := hx 2 (by simp)
    have hld := HLD.out W (HGH.out W hC)
    refine ⟨fun g hg => (by cases hg), ?_⟩
    clear hd
    generalize A.eval = ρ at hy0 ⊢
    simp [execOp, hy0, hld, looseUpon, factOf]
    exact ⟨hC, Below.refl _ _⟩
  · intro A W hC hd hx
    have hk : ∀ v, A.eval (.const v) = v := fun _ => rfl
    have hy0 : A.eval (.tmp 1) = .int .i64 (off : Int) := hx 1 (by simp)
    clear hd
    generalize A.eval = ρ at hk hy0 ⊢
    simp [go_sem, looseUpon, factOf, hk, hy0]
    exact ⟨hC, Below.refl _ _⟩
  · intro A W hC hd hx
    simp [factOf] at hd
    obtain ⟨hd0, hd1⟩ := hd
    refine ⟨fun g hg => (by cases hg), ?_⟩
    refine loose_call rfl Try.func45 (by kernel_rfl) (by kernel_rfl) ?_
    simp only [List.map_toArray, List.map_cons, List.map_nil, hd0, hd1]
    refine (HFIND.out W (HGB.out W hC)).mono ?_
    rintro e' W' ⟨rfl, h4⟩
    exact ⟨_, rfl, rfl, hC.trans (h4.mono hC.size), h4⟩
  · intro A W hC hd hx
    have hk : ∀ v, A.eval (.const v) = v := fun _ => rfl
    have c0 := HFC.out
    simp [factOf] at hd
    generalize A.eval = ρ at hd hk ⊢
    simp [go_sem, looseUpon, factOf, hd, hk, c0]
    exact ⟨hC, Below.refl _ _⟩
  · intro A W hC hd hx
    have hk : ∀ v, A.eval (.const v) = v := fun _ => rfl
    have c0 := (HX.out W (HGB.out W hC)).1
    have c1 := (HX.out W (HGB.out W hC)).2.1
    have c2 := (HX.out W (HGB.out W hC)).2.2.1
    have c3 := (HX.out W (HGB.out W hC)).2.2.2.1
    have c4 := (HX.out W (HGB.out W hC)).2.2.2.2
    simp [factOf] at hd
    generalize A.eval = ρ at hd hk ⊢
    simp [go_sem, looseUpon, factOf, hd, hk, c0, c1, c2, c3, c4]
    exact ⟨hC, Below.refl _ _⟩
  · intro A W hC hd hx
    have hk : ∀ v, A.eval (.const v) = v := fun _ => rfl
    clear hd
    generalize A.eval = ρ at hk ⊢
    simp [go_sem, looseUpon, factOf, hk]
    exact ⟨⟨_, rfl, hC.size, World.alloc_heap_new _ _⟩, hC.alloc hC.size _, (Below.refl _ _).alloc (Nat.le_refl _) _⟩
  intro W hC
  simp only [ends]
  rintro _ rfl _ rfl _ rfl _ rfl _ rfl _ rfl _ rfl _ ⟨B, rfl, hB, hbz⟩
  simp only [putAll, List.zip_cons_cons, List.zip_nil_left, List.foldl_cons, List.foldl_nil, Act.put, List.setIfInBounds_toArray, List.set_cons_succ, List.set_cons_zero, List.drop_succ_cons, List.drop_zero]
  have hsl := (Array.getElem?_eq_some_iff.1 (S.blocks (w.heap.size + 1, rorgO false 0 0) (by simp))).1
  dsimp only at hsl
  obtain ⟨s2, h2⟩ : ∃ s2 : HeldW w [(B, cmdO c.k c.t c.f c.n (.slice c.a c.l.length c.cap)), (w.heap.size + 1, rorgO false 0 0)], W.setRow B #[.int .i64 c.k, .int .i64 c.t, .int .i64 c.f, .int .i64 c.n, .slice c.a c.l.length c.cap] = s2.w :=
    ⟨⟨_, below_setRow (HGB.out W hC) (by omega) _, List.forall_mem_cons.2 ⟨setRow_heap _ _ _ _ _ _ hbz, all1 ((setRow_other _ _ _ _ (show w.heap.size + 1 ≠ B by omega)).trans (heap_below (S.blocks (w.heap.size + 1, rorgO false 0 0) (by simp)) hC))⟩⟩, rfl⟩
  have H2 := Lib.hid h2
  have hinf : (Try.prog.info? 26).map (·.size) = some (#[.int .i64 c.k, .int .i64 c.t, .int .i64 c.f, .int .i64 c.n, .slice c.a c.l.length c.cap] : Array Value).size := by
    show _ = some 5
    kernel_rfl
  have hone : (#[.int .i64 c.k, .int .i64 c.t, .int .i64 c.f, .int .i64 c.n, .slice c.a c.l.length c.cap] : Array Value).all (·.oneCell') = true := by simp [Value.oneCell']
  have hsz : (#[.int .i64 0, .int .i64 0, .int .i64 0, .int .i64 0, .slice none 0 0] : Array Value).size = (#[.int .i64 c.k, .int .i64 c.t, .int .i64 c.f, .int .i64 c.n, .slice c.a c.l.length c.cap] : Array Value).size := rfl
  obtain ⟨d0, d1, d2, d3, d4⟩ := cmd_cells (s2.blocks (B, cmdO c.k c.t c.f c.n (.slice c.a c.l.length c.cap)) (by simp))
  have hst := s2.blocks (w.heap.size + 1, rorgO false 0 0) (by simp)
  dsimp only at hst
  obtain ⟨hkk, hgc, hi, hh, hsb⟩ := HK.out
  have hgf := hgc
  unfold GoodB Cmd.core at hgf
  simp only at hgf
  clear h2 hC hB hsl
  rcases hkk with hk | hk
  · have eo : orgOf c i = orgA true (c.f + i) 0 := by unfold orgOf; rw [if_pos hk]
    have EO := Lib.hid eo
    have e1 : (c.k == 1) = true := by rw [hk]; rfl
    have e32 : c.f + (off : Int) - c.t = c.f + (i : Int) := by omega
    have hb0 : 0 ≤ c.f := by omega
    have hb1 : c.f ≤ 4611686018427387903 := by omega
    have HBW := Lib.hid (show Below w.heap.size w (s2.w.setRow (w.heap.size + 1) (orgA true (c.f + i) 0)) from below_setRow s2.below (by omega) _)
    have HHP := Lib.hid (show (s2.w.setRow (w.heap.size + 1) (orgA true (c.f + i) 0)).heap[w.heap.size + 1]? = some (rorgO true (c.f + i) 0) from setRow_heap _ _ _ _ _ _ hst)
    have hsz2 := rorg_size true (c.f + i) 0
    have hone2 := org_one true (c.f + i) 0
    clear hgf hgc hi hh hsb hk eo
    refine wpList_store_rowTo rfl 26 (.tmp 5) (.tmp 12) rfl rfl B #[.int .i64 c.k, .int .i64 c.t, .int .i64 c.f, .int .i64 c.n, .slice c.a c.l.length c.cap] rfl rfl 26 #[.int .i64 0, .int .i64 0, .int .i64 0, .int .i64 0, .slice none 0 0] hbz hinf hsz hone ?_
    rw [H2.out]
    go_wp2_with (refine wpList_store_rowTo rfl 62 (.tmp 4) (.tmp 23) rfl rfl (w.heap.size + 1) (orgA true (c.f + i) 0) rfl rfl 62 (orgA false 0 0) hst hsz2 rfl hone2 ?_)
    refine bodyPost_ret (v := .agg (orgA true (c.f + i) 0)) ?_ rfl ⟨by rw [EO.out], HBW.out⟩
    exact results_cell_row Try.results42 _ _ (w.heap.size + 1) 62 _ (0, 0) _ rfl HHP.out Try.underlying62 rfl hsz2
  · have hil : i < c.l.length := by unfold Cmd.w wlen at hh; rw [if_neg (by omega)] at hh; omega
    obtain ⟨xb, hxb⟩ : ∃ xb, c.l[i]? = some xb := ⟨_, List.getElem?_eq_getElem hil⟩
    have eo : orgOf c i = orgA false 0 xb := by
      unfold orgOf
      rw [if_neg (by omega), Int.toNat_natCast, hxb]
      rfl
    have EO := Lib.hid eo
    obtain ⟨bA, oA, hca, hcA⟩ := HB.out.cells (by omega)
    have hcj := hcA i hil
    rw [hxb, Option.getD_some] at hcj
    have d5 : s2.w.cell? ⟨bA, oA + i, none⟩ = some (.int .u8 xb) := (s2.below.cell (World.block_lt_of_cell? _ _ hcj)).trans hcj
    have e1 : (c.k == 1) = false := by rw [hk]; rfl
    have e43 : (off : Int) - c.t = (i : Int) := hi
    have hcl := HB.out.len
    have hcc := HB.out.capb
    replace d4 : s2.w.cell? ⟨B, 4, none⟩ = some (.slice (some ⟨bA, oA, none⟩) c.l.length c.cap) := d4.trans (by rw [hca])
    have HBW := Lib.hid (show Below w.heap.size w (s2.w.setRow (w.heap.size + 1) (orgA false 0 xb)) from below_setRow s2.below (by omega) _)
    have HHP := Lib.hid (show (s2.w.setRow (w.heap.size + 1) (orgA false 0 xb)).heap[w.heap.size + 1]? = some (rorgO false 0 xb) from setRow_heap _ _ _ _ _ _ hst)
    have hsz2 := rorg_size false 0 xb
    have hone2 := org_one false 0 xb
    clear hgf hgc hi hh hsb hk eo hxb hcj hcA
    refine wpList_store_rowTo rfl 26 (.tmp 5) (.tmp 12) rfl rfl B #[.int .i64 c.k, .int .i64 c.t, .int .i64 c.f, .int .i64 c.n, .slice c.a c.l.length c.cap] rfl rfl 26 #[.int .i64 0, .int .i64 0, .int .i64 0, .int .i64 0, .slice none 0 0] hbz hinf hsz hone ?_
    rw [H2.out]
    go_wp2_with (refine wpList_store_rowTo rfl 62 (.tmp 4) (.tmp 32) rfl rfl (w.heap.size + 1) (orgA false 0 xb) rfl rfl 62 (orgA false 0 0) hst hsz2 rfl hone2 ?_)
    refine bodyPost_ret (v := .agg (orgA false 0 xb)) ?_ rfl ⟨by rw [EO.out], HBW.out⟩
    exact results_cell_row Try.results42 _ _ (w.heap.size + 1) 62 _ (0, 0) _ rfl HHP.out Try.underlying62 rfl hsz2
end Go.Proofs.Ytgmjppjgbalapaa
