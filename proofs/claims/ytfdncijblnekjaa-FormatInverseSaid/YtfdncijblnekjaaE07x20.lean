import Derived.ArgAppend
import Derived.Test.YtfdncijblnekjaaE07x19
import Derived.Test.YtfdncijblnekjaaE07x9
/- The reference of package format: Encode. -/
namespace Go.Proofs.Ytfdncijblnekjaa
open Go.RowKit Go.Shelf Go.Proofs.Ytfdncijblnekjaa.Plain01
set_option linter.unusedVariables false
set_option linter.unusedSimpArgs false

/-- Bytes are appended to a full slice that lies somewhere: a new row of the call's own. -/
theorem wpList_append_full7 {P : Program} {t e : TypeId} (E : Elem P t e) {w0 : World} {bs : List (Nat × Obj)} {ops : Array Oper} {rest : List Oper} {o : Oper} {a : Act} {Q : Exit → Act → World → Prop} (s : HeldW w0 bs)
    (sO srcO : Operand) (hgd : o.guard = none) (ho : o.op = .call { callee := .builtin .append, args := #[sO, srcO], argTypes := #[t, t] }) (ap : Option Addr) (l : List Int) (cap : Nat) (n : Nat) (hn : l.length = n) (hs : a.eval sO = .slice ap n n) (hb : BytesIn s.w ap l cap)
    (B : Nat) (m c : Nat) (news : List Int) (hm : m = news.length) (hx : a.eval srcO = .slice (some ⟨B, 0, none⟩) m c) (hsrc : ∀ j u, (news.map (Value.int .u8))[j]? = some u → s.w.cell? ⟨B, j, none⟩ = some u) (hpos : 0 < m) (hlen : n + m ≤ 1099511627776)
    (H : ∀ v' (s' : OwnW w0 e v' ((l ++ news).map (Value.int .u8))), wpList P ops Q rest (a.put o.dst v') s'.w) : wpList P ops Q (o :: rest) a s.w := by
  subst hn; subst hm
  refine wpList_append_grows s.w hgd sO srcO t ho e E.i E.z 1 E.bytes E.ht E.hi E.hz E.hsize E.hby E.hzs (by omega) ap l.length l.length (l.map (Value.int .u8)) hs ?_ (by simp) ?_ ⟨B, 0, none⟩ news.length c (news.map (Value.int .u8)) hx (by simp) ?_ (one_bytes _) (by omega) (by unfold maxLen; omega) ?_ ?_
  · intro h
    have := hb.nil h; have := hb.len; omega
  · intro b hb2 j u hu
    obtain ⟨b', o', h1, hc⟩ := hb.cells (by have := (List.getElem?_eq_some_iff.1 hu).1; rw [List.length_map] at this; omega)
    obtain rfl := Option.some.inj (hb2.symm.trans h1)
    have hj := (List.getElem?_eq_some_iff.1 hu).1
    rw [List.length_map] at hj
    rw [Addr.add_mid, hc j hj]
    rw [List.getElem?_map] at hu
    obtain ⟨x, hx, rfl⟩ := Option.map_eq_some_iff.1 hu
    rw [hx]; rfl
  · intro j u hu
    rw [Addr.add_mid, Nat.zero_add]
    exact hsrc j u hu
  · have h2 : (l.length + news.length) * E.bytes ≤ 1099511627776 * 8 := Nat.mul_le_mul hlen E.hb8
    omega
  · intro v' w' hown hgr
    refine H v' ⟨w', s.below.grown hgr s.below.size (fun k hk => by cases hk), ?_⟩
    rw [List.map_append, List.length_append, List.length_map, List.length_map]
    exact ⟨hown.1, hown.2.imp id (fun ⟨g, cap, cur, h1, h2, h3⟩ => ⟨g, cap, cur, h1, Nat.le_trans s.below.size h2, h3⟩)⟩

/-- A row of bytes that grows. -/
abbrev GB (w0 : World) (bs : List (Nat × Obj)) (v : Value) (l : List Int) := Grow w0 none bs [] 5 1 v l.length (l.map (Value.int .u8))
theorem GB.enc {w0 : World} {bs : List (Nat × Obj)} {v : Value} {l : List Int} (S : GB w0 bs v l) (x : Int) (n : Nat) (hn : n ≤ 8) (hx : 0 ≤ x ∧ x < 18446744073709551616) (hl : l.length ≤ 1000000000) :
    Calls Try.prog 24 #[v, .int .u64 x, .int .i64 n] S.w (fun e w' => ∃ v', e = .returned v' ∧ ∃ S' : GB w0 bs v' (l ++ enc1 x n), w' = S'.w) := by
  obtain ⟨-, a, cap, rfl, hb⟩ := S.bytes
  refine (rappend_any l a cap x n S.w hb hl hn hx).mono ?_
  rintro e _ ⟨v', rfl, so, rfl⟩
  obtain ⟨S1, h1⟩ := S.swap so
  obtain ⟨S2, h2⟩ := S1.conv (n' := (l ++ enc1 x n).length) (xs' := (l ++ enc1 x n).map (Value.int .u8)) (by rw [List.length_map]) rfl
  exact ⟨v', rfl, S2, h1.trans h2⟩
theorem GB.app {w0 : World} {bs : List (Nat × Obj)} {v : Value} {l : List Int} {ops : Array Oper} {rest : List Oper} {o : Oper} {a : Act} {Q : Exit → Act → World → Prop} (S : GB w0 bs v l) (sO srcO : Operand)
    (hgd : o.guard = none) (ho : o.op = .call { callee := .builtin .append, args := #[sO, srcO], argTypes := #[28, 28] }) (hs : a.eval sO = v) (sp : Option Addr) (news : List Int) (m c : Nat) (hm : news.length = m) (hx : a.eval srcO = .slice sp m c) (hb : BytesIn S.w sp news c) (hl : l.length + m ≤ 100000000000)
    (H : ∀ v' (S' : GB w0 bs v' (l ++ news)), wpList Try.prog ops Q rest (a.put o.dst v') S'.w) : wpList Try.prog ops Q (o :: rest) a S.w := by
  subst hm
  obtain ⟨E, hE⟩ := elemW8
  refine Grow.appendO E S sO srcO hgd ho hs sp news.length c (news.map (Value.int .u8)) (by simp) hx (fun h => ⟨by have := hb.nil h; have := hb.len; omega, hb.nil h⟩) (fun ad had j u hu => ?_) (one_bytes _) (by unfold maxLen; omega) (by rw [hE]; omega) (fun v' S1 => ?_)
  · have hj := (List.getElem?_eq_some_iff.1 hu).1
    rw [List.length_map] at hj
    obtain ⟨b, o', he, hc⟩ := hb.cells (by omega)
    rw [he] at had
    cases had
    rw [Addr.add_mid, hc j hj]
    rw [List.getElem?_map, List.getElem?_eq_getElem hj] at hu
    rw [List.getElem?_eq_getElem hj]
    exact hu
  · obtain ⟨S2, h2⟩ := S1.conv (n' := (l ++ news).length) (xs' := (l ++ news).map (Value.int .u8)) (by simp) (by simp)
    rw [h2]
    exact H v' S2

set_option maxRecDepth 100000 in
set_option maxHeartbeats 8000000 in
theorem rencode_any (D : Array Value) (o n : Int) (x y : List Int) (ca : Option Addr) (cs : List Cmd) (ccap : Nat) (hD : DeltaOf D o n x y (.slice ca cs.length ccap)) (w : World) (h : CmdsIn w ca cs ccap) (hw : wrongOf o n (cores cs) = 0) (hN : cs.length < 4294967296)
    (hl : ∀ c ∈ cs, c.l.length ≤ 1000000000) (hs : (encAll o n x y (cores cs)).length ≤ 1000000000) :
    Calls Try.prog 14 #[.agg D] w (MakesR 5 ((encAll o n x y (cores cs)).map (Value.int .u8)) w) := by
  obtain ⟨E⟩ := elem_of (P := Try.prog) (t := 28) (e := 5) (z := .int .u8 0) (n := 1) Try.underlying28 (by kernel_rfl) rfl (by omega)
  obtain ⟨ho, hn, hall⟩ := wrong_zero.1 hw
  have ho' := inB_iff.1 ho
  have hn' := inB_iff.1 hn
  obtain ⟨S3, hS3⟩ := start3 w (deltaO D) (.cells #[.int .u8 71, .int .u8 82, .int .u8 70, .int .u8 84] 5 (4, 5)) (.cells #[.int .u8 1] 5 (0, 0))
  have HS3 := Lib.hid hS3
  have hlit : BytesIn S3.w (some ⟨w.heap.size + 1, 0, none⟩) [71, 82, 70, 84] 4 := bytes_lit (l := [71, 82, 70, 84]) (S3.blocks (w.heap.size + 1, .cells #[.int .u8 71, .int .u8 82, .int .u8 70, .int .u8 84] 5 (4, 5)) (by simp)) (by simp)
  have hone : ∀ (j : Nat) (u : Value), (([1] : List Int).map (Value.int .u8))[j]? = some u → S3.w.cell? ⟨w.heap.size + 1 + 1, j, none⟩ = some u := fun j u hu => by
    rw [cell_of (S3.blocks (w.heap.size + 1 + 1, .cells #[.int .u8 1] 5 (0, 0)) (by simp))]
    simpa using hu
  have DD := Lib.hid (fun W (hW : Below S3.w.heap.size S3.w W) => (show W.cell? ⟨w.heap.size, 0, none⟩ = some (.int .i64 o) ∧ W.cell? ⟨w.heap.size, 1, none⟩ = some (.int .i64 n) ∧ W.cell? ⟨w.heap.size, 66, none⟩ = some (.slice ca cs.length ccap) ∧ BytesIn W (some ⟨w.heap.size, 2, none⟩) x 32 ∧ BytesIn W (some ⟨w.heap.size, 34, none⟩) y 32 from by
    have hb := heap_below (S3.blocks (w.heap.size, deltaO D) (by simp)) hW
    exact ⟨(cell_of hb 0).trans hD.c0, (cell_of hb 1).trans hD.c1, (cell_of hb 66).trans hD.c66, delta_bytes hD hb⟩))
  have hcv : (convert 28 28 (.slice (some ⟨w.heap.size + 1, 0, none⟩) 4 4)).run Try.prog ((w.alloc (deltaO D)).alloc (.cells #[.int .u8 71, .int .u8 82, .int .u8 70, .int .u8 84] 5)) = .ok (.slice (some ⟨w.heap.size + 1, 0, none⟩) 4 4) ((w.alloc (deltaO D)).alloc (.cells #[.int .u8 71, .int .u8 82, .int .u8 70, .int .u8 84] 5 (4, 5))) := by
    have := Lib.run_convert_bytes_const (P := Try.prog) (w.alloc (deltaO D)) 28 5 #[.int .u8 71, .int .u8 82, .int .u8 70, .int .u8 84] 4 4 Try.underlying28 Try.underlying5
    rw [World.size_alloc] at this
    exact this
  have HH := Lib.hid h
  have HALL := Lib.hid (show ∀ c ∈ cs, kindB c.core = true ∧ goodB c.core = true ∧ c.l.length ≤ 1000000000 from fun c hc => ⟨(hall c.core (List.mem_map_of_mem hc)).1, (hall c.core (List.mem_map_of_mem hc)).2, hl c hc⟩)
  obtain ⟨L, hL⟩ : ∃ L, L = cs.length := ⟨_, rfl⟩
  have HL := Lib.hid hL
  have hLcap : L ≤ ccap := by rw [hL]; exact h.len
  have hccap := h.capb
  have hX := hD.xl
  have hY := hD.yl
  have hwo : IntKind.u64.wrap o = o := by rw [IntKind.wrap_u64]; omega
  have hwn : IntKind.u64.wrap n = n := by rw [IntKind.wrap_u64]; omega
  rw [← hL] at hN DD
  have hwl : IntKind.u64.wrap (L : Int) = L := by rw [IntKind.wrap_u64]; omega
  have HEA := Lib.hid (show ∀ k, (encH o n x y L ++ ((cores cs).take k).flatMap encK).length ≤ 1000000000 from fun k => by
    have : (encAll o n x y (cores cs)).length = (encH o n x y L).length + ((((cores cs).take k).flatMap encK).length + (((cores cs).drop k).flatMap encK).length) := by
      unfold encAll
      rw [show (cores cs).length = L by rw [hL]; simp [cores], List.length_append]
      conv => lhs; rw [← List.take_append_drop k (cores cs), List.flatMap_append, List.length_append]
    rw [List.length_append]
    omega)
  have HTOT := Lib.hid (show encH o n x y L ++ ((cores cs).take L).flatMap encK = encAll o n x y (cores cs) by unfold encAll; rw [show L = (cores cs).length by rw [hL]; simp [cores], List.take_length])
  obtain ⟨POST, hP⟩ : ∃ P, P = MakesR 5 ((encAll o n x y (cores cs)).map (Value.int .u8)) w := ⟨_, rfl⟩
  have HP := Lib.hid hP
  rw [← hP]
  clear hD h hw hl hs hall ho hn hL hS3 hP
  have hsl := fun (i : Nat) (W : World) => slice_arr w.heap.size i W
  have FD := Lib.hid (fun (bs : List (Nat × Obj)) (v : Value) (l : List Int) (G : GB S3.w bs v l) => DD.out G.w G.but.below)
  go_enter Try.func14, Try.ntmps14
  go_wp2_with (rw [HS3.out]; refine wpList_append_full7 E (HeldW.start S3.w) (.tmp 7) (.tmp 8) rfl rfl (some ⟨w.heap.size + 1, 0, none⟩) [71, 82, 70, 84] 4 4 rfl rfl hlit (w.heap.size + 1 + 1) 1 1 [1] rfl rfl hone (by omega) (by omega) ?_; intro v1 s1; obtain ⟨d0, d1, d66, dx, dy⟩ := DD.out s1.w s1.below)
  obtain ⟨G0, h0⟩ := Grow.ofOwn s1
  obtain ⟨G1, h1⟩ := G0.conv (n' := ([71, 82, 70, 84] ++ [1] : List Int).length) (xs' := ([71, 82, 70, 84] ++ [1] : List Int).map (Value.int .u8)) rfl rfl
  rw [h0, h1]
  clear h0 h1 G0 hcv hlit hone d0 d1 d66 dx dy
  refine (GB.enc G1 o 8 (by omega) (by omega) (by simp)).mono ?_
  rintro e _ ⟨v2, rfl, G2, rfl⟩
  clear s1 G1
  obtain ⟨d0, d1, d66, dx, dy⟩ := FD.out _ _ _ G2
  go_wp2_with fail
  clear d0 d1 d66 dx dy
  refine (GB.enc G2 n 8 (by omega) (by omega) (by simp [digs_length])).mono ?_
  rintro e _ ⟨v3, rfl, G3, rfl⟩
  clear G2
  obtain ⟨d0, d1, d66, dx, dy⟩ := FD.out _ _ _ G3
  go_wp2_with (first
    | (refine GB.app G3 (.tmp 20) (.tmp 22) rfl rfl rfl (some ⟨w.heap.size, 2, none⟩) x 32 32 hX rfl dx (by simp [digs_length]) ?_; intro v4 G4; clear d0 d1 d66 dx dy; obtain ⟨d0, d1, d66, dx, dy⟩ := FD.out _ _ _ G4)
    | (refine GB.app G4 (.tmp 24) (.tmp 26) rfl rfl rfl (some ⟨w.heap.size, 34, none⟩) y 32 32 hY rfl dy (by simp [digs_length, hX]) ?_; intro v5 G5; clear d0 d1 d66 dx dy; obtain ⟨d0, d1, d66, dx, dy⟩ := FD.out _ _ _ G5))
  clear d0 d1 d66 dx dy
  refine (GB.enc G5 (L : Int) 4 (by omega) (by omega) (by simp [digs_length, hX, hY])).mono ?_
  rintro e _ ⟨v6, rfl, G6, rfl⟩
  clear G3 G4 G5
  have HH6 := Lib.hid (show ([71, 82, 70, 84] ++ [1] ++ enc1 o 8 ++ enc1 n 8 ++ x ++ y ++ enc1 (L : Int) 4) = encH o n x y L ++ ((cores cs).take 0).flatMap encK by unfold encH; simp)
  generalize ([71, 82, 70, 84] ++ [1] ++ enc1 o 8 ++ enc1 n 8 ++ x ++ y ++ enc1 (L : Int) 4) = l6 at G6 HH6 ⊢
  have HW3 := Lib.hid (show Below w.heap.size w S3.w from S3.below)
  clear hsl hwo hwn hwl hX hY ho' hn'
  go_wp2
  go_loopw [3, 4] (fun v i wr => ∃ k : Nat, k ≤ L ∧ i = .int .i64 k ∧ ∃ l : List Int, Hid (l = encH o n x y L ++ ((cores cs).take k).flatMap encK) ∧ ∃ G : GB S3.w [] v l, wr = G.w) (fun _ i _ => L - (intOf i).toNat)
  case atStart => exact ⟨0, by omega, rfl, l6, HH6, G6, rfl⟩
  case round =>
    clear G6 HH6
    obtain ⟨k, hk, rfl, l, hl, G, rfl⟩ := hrel
    obtain ⟨d0, d1, d66, dx, dy⟩ := FD.out _ _ _ G
    have hll : l.length ≤ 1000000000 := by rw [hl.out]; exact HEA.out k
    by_cases hlt : k < L
    · obtain ⟨c, hc⟩ : ∃ c, cs[k]? = some c := ⟨_, List.getElem?_eq_getElem (by rw [← HL.out]; exact hlt)⟩
      have hcm := List.mem_of_getElem? hc
      obtain ⟨gk, gg, gl⟩ := HALL.out c hcm
      have hcw := HH.out.below (HW3.out.trans (G.but.below.mono HW3.out.size))
      obtain ⟨b, oo, rfl, x0, x1, x2, x3, x4⟩ := hcw.at hc
      have HOC := Lib.hid (fun (bs : List (Nat × Obj)) (v : Value) (l : List Int) (G : GB S3.w bs v l) => (HH.out.ok c hcm).b.below (HW3.out.trans (G.but.below.mono HW3.out.size)))
      obtain ⟨B, G1, hB, hG1⟩ := G.more (cmdO c.k c.t c.f c.n (.slice c.a c.l.length c.cap))
      obtain ⟨B2, G2, hB2, hG2⟩ := G1.more (.cells #[.int .u8 c.k] 5 (0, 0))
      have HB := Lib.hid hB
      have HB2 : Hid (S3.w = S3.w ∧ B2 = B + 1) := Lib.hid ⟨rfl, by rw [hB2, ← hG1, hB]; simp⟩
      have HG2 : Hid ((G.w.alloc (cmdO c.k c.t c.f c.n (.slice c.a c.l.length c.cap))).alloc (.cells #[.int .u8 c.k] 5 (0, 0)) = G2.w) := Lib.hid (by rw [hG1, hG2])
      have hone : BytesIn G2.w (some ⟨B2, 0, none⟩) [c.k] 1 := bytes_lit (l := [c.k]) (G2.blocks (B2, .cells #[.int .u8 c.k] 5 (0, 0)) (by simp)).1 (by simp)
      have CF := Lib.hid (fun (v : Value) (l : List Int) (G : GB S3.w [(B2, .cells #[.int .u8 c.k] 5 (0, 0)), (B, cmdO c.k c.t c.f c.n (.slice c.a c.l.length c.cap))] v l) => cmd_cells (G.blocks (B, cmdO c.k c.t c.f c.n (.slice c.a c.l.length c.cap)) (by simp)).1)
      have HTK := Lib.hid (show ((cores cs).take (k + 1)).flatMap encK = ((cores cs).take k).flatMap encK ++ encK c.core by
        have := cores_get hc
        obtain ⟨hk1, hk2⟩ := List.getElem?_eq_some_iff.1 this
        rw [List.take_succ_eq_append_getElem hk1, hk2, List.flatMap_append]
        simp)
      have hnext := HEA.out (k + 1)
      rw [HTK.out, ← List.append_assoc, ← hl.out, List.length_append] at hnext
      have HEK := Lib.hid (show l ++ encK c.core = encH o n x y L ++ ((cores cs).take (k + 1)).flatMap encK by rw [HTK.out, ← List.append_assoc, ← hl.out])
      have hkk := gk
      unfold kindB at hkk
      simp only [Bool.or_eq_true, beq_iff_eq] at hkk
      have hgg := gg
      unfold goodB at hgg
      simp only [Bool.and_eq_true] at hgg
      obtain ⟨⟨⟨ht, hf⟩, hn⟩, hgx⟩ := hgg
      have ht := inB_iff.1 ht
      have hf := inB_iff.1 hf
      have hn := inB_iff.1 hn
      have hwk : IntKind.u8.wrap c.k = c.k := by rcases hkk with h | h <;> rw [show c.k = _ from h] <;> rfl
      have hwt : IntKind.u64.wrap c.t = c.t := by rw [IntKind.wrap_u64]; omega
      have hwf : IntKind.u64.wrap c.f = c.f := by rw [IntKind.wrap_u64]; omega
      have hwn : IntKind.u64.wrap c.n = c.n := by rw [IntKind.wrap_u64]; omega
      have hwl : IntKind.u64.wrap (c.l.length : Int) = c.l.length := by rw [IntKind.wrap_u64]; omega
      clear hc hcm gk gg hcw hG1 hG2 hB hB2 G1
      rcases hkk with hk1 | hk2
      · have hk1' : c.k = 1 := hk1
        have he : encK c.core = [1] ++ (enc1 c.t 8 ++ (enc1 c.f 8 ++ enc1 c.n 8)) := encK_copy hk1
        have hel : (encK c.core).length = 25 := by rw [he]; simp [digs_length]
        rw [hel] at hnext
        have HE := Lib.hid he
        have e1 : (c.k == 1) = true := by rw [hk1']; rfl
        have HK := Lib.hid hk1'
        clear hel he hgx hk1 hk1'
        go_wp2_with (rw [HG2.out, ← HB.out]; refine GB.app G2 (.tmp 46) (.tmp 50) rfl rfl rfl (some ⟨_, 0, none⟩) [c.k] 1 1 rfl (by rw [HB2.out.2]; rfl) hone (by omega) ?_; intro v1 G3; clear x0 x1 x2 x3 x4 d0 d1 d66 dx dy; obtain ⟨x0, x1, x2, x3, x4⟩ := CF.out _ _ G3)
        have hl3 : (l ++ [c.k]).length = l.length + 1 := by simp
        refine (GB.enc G3 c.t 8 (by omega) (by omega) (by omega)).mono ?_
        rintro e _ ⟨v2, rfl, G4, rfl⟩
        clear x0 x1 x2 x3 x4 hone HG2 G2
        obtain ⟨x0, x1, x2, x3, x4⟩ := CF.out _ _ G4
        have hl4 : (l ++ [c.k] ++ enc1 c.t 8).length = l.length + 9 := by simp [digs_length]
        go_wp2_with fail
        refine (GB.enc G4 c.f 8 (by omega) (by omega) (by omega)).mono ?_
        rintro e _ ⟨v3, rfl, G5, rfl⟩
        clear x0 x1 x2 x3 x4 G3 hl3
        obtain ⟨x0, x1, x2, x3, x4⟩ := CF.out _ _ G5
        have hl5 : (l ++ [c.k] ++ enc1 c.t 8 ++ enc1 c.f 8).length = l.length + 17 := by simp [digs_length]
        go_wp2_with fail
        refine (GB.enc G5 c.n 8 (by omega) (by omega) (by omega)).mono ?_
        rintro e _ ⟨v4, rfl, G6, rfl⟩
        have hfin : l ++ [c.k] ++ enc1 c.t 8 ++ enc1 c.f 8 ++ enc1 c.n 8 = encH o n x y L ++ ((cores cs).take (k + 1)).flatMap encK := by
          rw [← HEK.out, HE.out, HK.out]
          simp only [List.append_assoc]
        obtain ⟨G7, h7⟩ := G6.sub (bs' := []) (by simp)
        obtain ⟨G8, h8⟩ := G7.conv (n' := (encH o n x y L ++ ((cores cs).take (k + 1)).flatMap encK).length) (xs' := (encH o n x y L ++ ((cores cs).take (k + 1)).flatMap encK).map (Value.int .u8)) (by rw [hfin]) (by rw [hfin])
        have H8 := Lib.hid (h7.trans h8)
        clear x0 x1 x2 x3 x4 G4 G5 hl4 hl5 h7 h8 hfin
        go_wp2
        go_roundw
        case rel => exact ⟨k + 1, by omega, by go_num, _, Lib.hid rfl, G8, H8.out⟩
        case measure => simp [intOf]; omega
      · have hk2' : c.k = 2 := hk2
        have he : encK c.core = [2] ++ (enc1 c.t 8 ++ (enc1 c.l.length 8 ++ c.l)) := encK_lit hk2
        have hel : (encK c.core).length = 17 + c.l.length := by rw [he]; simp [digs_length]; omega
        rw [hel] at hnext
        have HE := Lib.hid he
        have e1 : (c.k == 1) = false := by rw [hk2']; rfl
        have HK := Lib.hid hk2'
        clear hel he hgx hk2 hk2'
        go_wp2_with (rw [HG2.out, ← HB.out]; refine GB.app G2 (.tmp 46) (.tmp 50) rfl rfl rfl (some ⟨_, 0, none⟩) [c.k] 1 1 rfl (by rw [HB2.out.2]; rfl) hone (by omega) ?_; intro v1 G3; clear x0 x1 x2 x3 x4 d0 d1 d66 dx dy; obtain ⟨x0, x1, x2, x3, x4⟩ := CF.out _ _ G3)
        have hl3 : (l ++ [c.k]).length = l.length + 1 := by simp
        refine (GB.enc G3 c.t 8 (by omega) (by omega) (by omega)).mono ?_
        rintro e _ ⟨v2, rfl, G4, rfl⟩
        clear x0 x1 x2 x3 x4 hone HG2 G2
        obtain ⟨x0, x1, x2, x3, x4⟩ := CF.out _ _ G4
        have hl4 : (l ++ [c.k] ++ enc1 c.t 8).length = l.length + 9 := by simp [digs_length]
        go_wp2_with fail
        refine (GB.enc G4 (c.l.length : Int) 8 (by omega) (by omega) (by omega)).mono ?_
        rintro e _ ⟨v3, rfl, G5, rfl⟩
        clear x0 x1 x2 x3 x4 G3 hl3
        obtain ⟨x0, x1, x2, x3, x4⟩ := CF.out _ _ G5
        have hl5 : (l ++ [c.k] ++ enc1 c.t 8 ++ enc1 (c.l.length : Int) 8).length = l.length + 17 := by simp [digs_length]
        have hby := HOC.out _ _ _ G5
        have hfin : l ++ [c.k] ++ enc1 c.t 8 ++ enc1 (c.l.length : Int) 8 ++ c.l = encH o n x y L ++ ((cores cs).take (k + 1)).flatMap encK := by
          rw [← HEK.out, HE.out, HK.out]
          simp only [List.append_assoc]
        have HFIN := Lib.hid hfin
        clear hfin
        go_wp2_with (refine GB.app G5 (.tmp 76) (.tmp 78) rfl rfl rfl c.a c.l c.l.length c.cap rfl rfl hby (by omega) ?_; intro v4 G6)
        obtain ⟨G7, h7⟩ := G6.sub (bs' := []) (by simp)
        obtain ⟨G8, h8⟩ := G7.conv (n' := (encH o n x y L ++ ((cores cs).take (k + 1)).flatMap encK).length) (xs' := (encH o n x y L ++ ((cores cs).take (k + 1)).flatMap encK).map (Value.int .u8)) (by rw [HFIN.out]) (by rw [HFIN.out])
        have H8 := Lib.hid (h7.trans h8)
        clear x0 x1 x2 x3 x4 G4 G5 hl4 hl5 h7 h8 hby
        go_wp2
        go_roundw
        case rel => exact ⟨k + 1, by omega, by go_num, _, Lib.hid rfl, G8, H8.out⟩
        case measure => simp [intOf]; omega
    · obtain rfl : k = L := by omega
      have hl2 := hl.out
      rw [HTOT.out] at hl2
      have hQ : Hid (∀ v' (G : GB S3.w [] v' l), POST (.returned v') G.w) := Lib.hid fun v' G => by
        rw [HP.out]
        have hb := G.but.below
        refine ⟨v', rfl, ⟨G.w, HW3.out.trans (hb.mono HW3.out.size), ?_⟩, rfl⟩
        have := World.ownsRow.rebase7 G.own HW3.out.size
        rw [← hl2, List.length_map]
        exact this
      clear hl2
      go_wp2
      exact hQ.out _ G
end Go.Proofs.Ytfdncijblnekjaa

/- FormatEncodes returns true for every delta, and changes nothing that was there. -/
namespace Go.Proofs.Ytfdncijblnekjaa
open Go.RowKit
set_option linter.unusedVariables false
set_option linter.unusedSimpArgs false

theorem encK_len (c : Core7) : (encK c).length ≤ 25 + c.2.2.2.2.length := by
  unfold encK
  split <;> simp [digs_length] <;> omega
theorem enc_few_len {o n : Int} {x y : List Int} {cs : List Cmd} (hx : x.length = 32) (hy : y.length = 32) (h : FewD cs) : (encAll o n x y (cores cs)).length ≤ 20000 := by
  have hk : ∀ (l : List Core7), (∀ c ∈ l, c.2.2.2.2.length ≤ 300) → (l.flatMap encK).length ≤ 325 * l.length := by
    intro l
    induction l with
    | nil => intro _; simp
    | cons c l ih =>
      intro hl
      have h1 := ih (fun d hd => hl d (List.mem_cons_of_mem _ hd))
      have h2 := encK_len c
      have h3 := hl c List.mem_cons_self
      rw [List.flatMap_cons, List.length_append, List.length_cons]
      omega
  have h1 := hk (cores cs) (fun c hc => by
    obtain ⟨d, hd, rfl⟩ := List.mem_map.1 hc
    exact h.1 d hd)
  have h2 : (cores cs).length = cs.length := by simp [cores]
  have h3 := h.2
  unfold encAll
  rw [List.length_append]
  have h4 : (encH o n x y (cores cs).length).length = 89 := by
    have len8 : ∀ v, (enc1 v 8).length = 8 := fun v => digs_length v 8 8
    have len4 : ∀ v, (enc1 v 4).length = 4 := fun v => digs_length v 4 4
    unfold encH
    simp only [List.length_append, len8, len4, hx, hy, List.length_cons, List.length_nil]
  omega

set_option maxRecDepth 100000 in
set_option maxHeartbeats 8000000 in
theorem encodes_big (D : Array Value) (o n : Int) (x y : List Int) (ca : Option Addr) (cs : List Cmd) (ccap : Nat) (hD : DeltaOf D o n x y (.slice ca cs.length ccap)) (w : World) (h : CmdsIn w ca cs ccap) (hf : ¬ FewD cs) :
    Calls Try.prog 3 #[.agg D] w (Gives (.bool true) w) := by
  obtain ⟨S, hS⟩ := start1 w (deltaO D)
  have HS := Lib.hid hS
  have hg := World.alloc_heap_new w (deltaO D)
  have hinf := infoDelta hD
  have hfew := few_any D o n x y ca cs ccap hD S.w (h.W S)
  rw [decide_eq_false hf] at hfew
  clear hS hD h hf
  go_enter Try.func3, Try.ntmps3
  go_wp2_with (refine wpList_load_row rfl 25 (.tmp 1) rfl w.heap.size rfl 25 _ (0, 0) _ hg Try.underlying25 rfl hinf ?_)
  rw [HS.out]
  refine (HeldW.call (s := S) hfew).mono ?_
  rintro e _ ⟨rfl, s1, rfl⟩
  go_wp2_with fail
  refine (HeldW.call (s := s1) (alive07_gives _)).mono ?_
  rintro e _ ⟨rfl, s2, rfl⟩
  go_wp2
  go_ret
  exact ⟨rfl, s2.below⟩

set_option maxRecDepth 100000 in
set_option maxHeartbeats 8000000 in
theorem encodes_wrong (D : Array Value) (o n : Int) (x y : List Int) (ca : Option Addr) (cs : List Cmd) (ccap : Nat) (hD : DeltaOf D o n x y (.slice ca cs.length ccap)) (w : World) (h : CmdsIn w ca cs ccap) (hf : FewD cs) (hw : wrongOf o n (cores cs) ≠ 0) :
    Calls Try.prog 3 #[.agg D] w (Gives (.bool true) w) := by
  obtain ⟨S, hS⟩ := start1 w (deltaO D)
  have HS := Lib.hid hS
  have hg := World.alloc_heap_new w (deltaO D)
  have hinf := infoDelta hD
  have hlen := enc_few_len (o := o) (n := n) hD.xl hD.yl hf
  have hN : cs.length < 4294967296 := by have := hf.2; omega
  have hl : ∀ c ∈ cs, c.l.length ≤ 1000000000 := fun c hc => by have := hf.1 c hc; omega
  have hfew := few_any D o n x y ca cs ccap hD S.w (h.W S)
  rw [decide_eq_true hf] at hfew
  have HE := Lib.hid (fun s : HeldW w [(w.heap.size, deltaO D)] => encode_any D o n x y ca cs ccap hD s.w (h.W s) hN hl (by omega))
  have HW := Lib.hid (fun s : HeldW w [(w.heap.size, deltaO D)] => rwrong_any D o n x y ca cs ccap hD s.w (h.W s))
  have HZ := Lib.hid (fun s : HeldW w [(w.heap.size, deltaO D)] => size_any D o n x y ca cs ccap hD s.w (h.W s) hN hl (by omega))
  have HG := Lib.hid (fun s : HeldW w [(w.heap.size, deltaO D)] => s.blocks (w.heap.size, deltaO D) (by simp))
  rw [show sizeOf7 o n x y (cores cs) = 0 by unfold sizeOf7; rw [if_neg hw]] at HZ
  generalize wrongOf o n (cores cs) = R at hw HE HW
  generalize encAll o n x y (cores cs) = B at HE
  have e1 : (R != 0) = true := by simpa using hw
  have HNE := Lib.hid hw
  clear hS hD h hf hw hl hN hlen
  go_enter Try.func3, Try.ntmps3
  go_wp2_with (refine wpList_load_row rfl 25 (.tmp 1) rfl w.heap.size rfl 25 _ (0, 0) _ hg Try.underlying25 rfl hinf ?_)
  rw [HS.out]
  refine (HeldW.call (s := S) hfew).mono ?_
  rintro e _ ⟨rfl, s1, rfl⟩
  have g1 := HG.out s1
  go_wp2_with (refine wpList_load_row rfl 25 (.tmp 1) rfl w.heap.size rfl 25 _ (0, 0) _ g1 Try.underlying25 rfl hinf ?_)
  refine (HE.out s1).mono ?_
  rintro e w2 hp
  unfold EncPost at hp
  rw [if_neg HNE.out] at hp
  obtain ⟨rfl, hb⟩ := hp
  obtain ⟨s2, rfl⟩ := s1.after hb
  clear g1
  have g1 := HG.out s2
  go_wp2_with (refine wpList_load_row rfl 25 (.tmp 1) rfl w.heap.size rfl 25 _ (0, 0) _ g1 Try.underlying25 rfl hinf ?_)
  refine (HeldW.call (s := s2) (HW.out s2)).mono ?_
  rintro e _ ⟨rfl, s3, rfl⟩
  go_wp2_with fail
  refine (HeldW.call (s := s3) (alive07_gives _)).mono ?_
  rintro e _ ⟨rfl, s4, rfl⟩
  clear g1
  have g1 := HG.out s4
  go_wp2_with (refine wpList_load_rowG rfl 25 (.tmp 1) rfl (some 31) rfl w.heap.size rfl 25 _ (0, 0) _ g1 Try.underlying25 rfl hinf ?_)
  refine (HeldW.call (s := s4) (HZ.out s4)).mono ?_
  rintro e _ ⟨rfl, s5, rfl⟩
  go_wp2
  go_ret
  exact ⟨by simp, s5.below⟩

set_option maxRecDepth 100000 in
set_option maxHeartbeats 8000000 in
theorem encodes_right (D : Array Value) (o n : Int) (x y : List Int) (ca : Option Addr) (cs : List Cmd) (ccap : Nat) (hD : DeltaOf D o n x y (.slice ca cs.length ccap)) (w : World) (h : CmdsIn w ca cs ccap) (hf : FewD cs) (hw : wrongOf o n (cores cs) = 0) :
    Calls Try.prog 3 #[.agg D] w (Gives (.bool true) w) := by
  obtain ⟨S, hS⟩ := start1 w (deltaO D)
  have HS := Lib.hid hS
  have hg := World.alloc_heap_new w (deltaO D)
  have hinf := infoDelta hD
  have hlen := enc_few_len (o := o) (n := n) hD.xl hD.yl hf
  have hN : cs.length < 4294967296 := by have := hf.2; omega
  have hl : ∀ c ∈ cs, c.l.length ≤ 1000000000 := fun c hc => by have := hf.1 c hc; omega
  have hfew := few_any D o n x y ca cs ccap hD S.w (h.W S)
  rw [decide_eq_true hf] at hfew
  have HE := Lib.hid (fun s : HeldW w [(w.heap.size, deltaO D)] => encode_any D o n x y ca cs ccap hD s.w (h.W s) hN hl (by omega))
  have HW := Lib.hid (fun s : HeldW w [(w.heap.size, deltaO D)] => rwrong_any D o n x y ca cs ccap hD s.w (h.W s))
  have HZ := Lib.hid (fun s : HeldW w [(w.heap.size, deltaO D)] => size_any D o n x y ca cs ccap hD s.w (h.W s) hN hl (by omega))
  have HR := Lib.hid (fun s : HeldW w [(w.heap.size, deltaO D)] => rencode_any D o n x y ca cs ccap hD s.w (h.W s) hw hN hl (by omega))
  have HG := Lib.hid (fun s : HeldW w [(w.heap.size, deltaO D)] => s.blocks (w.heap.size, deltaO D) (by simp))
  rw [show sizeOf7 o n x y (cores cs) = ((encAll o n x y (cores cs)).length : Nat) by unfold sizeOf7; rw [if_pos hw]] at HZ
  rw [hw] at HE HW
  generalize encAll o n x y (cores cs) = B at HE HZ HR
  obtain ⟨M, hM⟩ : ∃ M, M = B.length := ⟨_, rfl⟩
  have HM := Lib.hid hM
  rw [← hM] at HZ
  clear hS hD h hf hw hl hN hlen hM
  go_enter Try.func3, Try.ntmps3
  go_wp2_with (refine wpList_load_row rfl 25 (.tmp 1) rfl w.heap.size rfl 25 _ (0, 0) _ hg Try.underlying25 rfl hinf ?_)
  rw [HS.out]
  refine (HeldW.call (s := S) hfew).mono ?_
  rintro e _ ⟨rfl, s1, rfl⟩
  have g1 := HG.out s1
  go_wp2_with (refine wpList_load_row rfl 25 (.tmp 1) rfl w.heap.size rfl 25 _ (0, 0) _ g1 Try.underlying25 rfl hinf ?_)
  refine (HE.out s1).mono ?_
  rintro e w2 hp
  unfold EncPost at hp
  rw [if_pos rfl] at hp
  obtain ⟨A, C, rfl, hb, hby, -⟩ := hp
  obtain ⟨s2, rfl⟩ := s1.after hb
  have HBY := Lib.hid hby
  rw [← HM.out]
  clear g1 hb hby
  have g1 := HG.out s2
  go_wp2_with (refine wpList_load_row rfl 25 (.tmp 1) rfl w.heap.size rfl 25 _ (0, 0) _ g1 Try.underlying25 rfl hinf ?_)
  refine (HW.out s2).mono ?_
  rintro e w3 ⟨rfl, hb3⟩
  obtain ⟨s3, rfl⟩ := s2.after hb3
  go_wp2_with fail
  refine (alive07_gives _).mono ?_
  rintro e w4 ⟨rfl, hb4⟩
  obtain ⟨s4, rfl⟩ := s3.after hb4
  clear g1
  have g1 := HG.out s4
  go_wp2_with (refine wpList_load_rowG rfl 25 (.tmp 1) rfl (some 42) rfl w.heap.size rfl 25 _ (0, 0) _ g1 Try.underlying25 rfl hinf ?_)
  refine (HR.out s4).mono ?_
  rintro e _ ⟨v5, rfl, so, rfl⟩
  have hown := so.own
  rw [List.length_map] at hown
  obtain ⟨A5, C5, rfl, hby5, -⟩ := own_sl hown
  obtain ⟨s5, hs5⟩ := s4.after so.below
  have hby2 : BytesIn so.w A B C := ((HBY.out.below hb3).below hb4).below so.below
  have hq := eq8_any B B A A5 C C5 so.w hby2 hby5
  rw [decide_eq_true rfl] at hq
  rw [hs5] at hq ⊢
  rw [← HM.out] at hq
  rw [← HM.out]
  clear g1 hown hby5 hby2 hs5 hb3 hb4 so
  go_wp2_with fail
  refine (HeldW.call (s := s5) hq).mono ?_
  rintro e _ ⟨rfl, s6, rfl⟩
  have g1 := HG.out s6
  go_wp2_with (refine wpList_load_rowG rfl 25 (.tmp 1) rfl (some 47) rfl w.heap.size rfl 25 _ (0, 0) _ g1 Try.underlying25 rfl hinf ?_)
  refine (HeldW.call (s := s6) (HZ.out s6)).mono ?_
  rintro e _ ⟨rfl, s7, rfl⟩
  go_wp2
  go_ret
  exact ⟨by simp, s7.below⟩

theorem formatEncodes_walk (o n : Int) (x y : List Int) (a : Option Addr) (cs : List Cmd) (cap : Nat) (w : World) (ho : I64 o) (hn : I64 n) (hx : x.length = 32) (hy : y.length = 32) (h : CmdsIn w a cs cap) :
    Calls Try.prog 3 #[.agg (deltaA o n x y (.slice a cs.length cap))] w (Gives (.bool true) w) := by
  have hD : DeltaOf (deltaA o n x y (.slice a cs.length cap)) o n x y (.slice a cs.length cap) := ⟨rfl, hx, hy⟩
  by_cases hf : FewD cs
  · by_cases hw : wrongOf o n (cores cs) = 0
    · exact encodes_right _ o n x y a cs cap hD w h hf hw
    · exact encodes_wrong _ o n x y a cs cap hD w h hf hw
  · exact encodes_big _ o n x y a cs cap hD w h hf
end Go.Proofs.Ytfdncijblnekjaa
