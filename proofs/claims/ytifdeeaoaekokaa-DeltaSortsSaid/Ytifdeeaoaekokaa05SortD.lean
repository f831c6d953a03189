/- delta.Sort: the commands in the order of their targets. -/
import Derived.Test.Ytifdeeaoaekokaa05SortR
namespace Go.Proofs.Ytifdeeaoaekokaa
open Go.RowKit Go.Shelf Go.Proofs.Ytifdeeaoaekokaa.Plain01
set_option linter.unusedVariables false
set_option linter.unusedSimpArgs false

def cmd0 : Cmd := ⟨0, 0, 0, 0, [], none, 0⟩
/-- The commands as an order of indices says. -/
def lsOf (cs : List Cmd) (idx : Array Int) : List Cmd := idx.toList.map fun z => (cs[z.toNat]?).getD cmd0
theorem IsOrder.at {cs : List Cmd} {idx : Array Int} (h : IsOrder cs idx) {k : Nat} (hk : k < cs.length) : ∃ (m : Nat) (c : Cmd), idx[k]? = some (m : Int) ∧ m < cs.length ∧ cs[m]? = some c ∧ (lsOf cs idx)[k]? = some c := by
  have hks : k < idx.size := by rw [h.size]; exact hk
  have hm : idx[k] ∈ (List.range cs.length).map (fun i : Nat => (i : Int)) := h.perm.mem_iff.1 (by rw [Array.mem_toList_iff]; exact Array.getElem_mem hks)
  obtain ⟨m, hm1, hm2⟩ := List.mem_map.1 hm
  rw [List.mem_range] at hm1
  refine ⟨m, cs[m], by rw [Array.getElem?_eq_getElem hks, hm2], hm1, List.getElem?_eq_getElem hm1, ?_⟩
  unfold lsOf
  rw [List.getElem?_map, Array.getElem?_toList, Array.getElem?_eq_getElem hks, ← hm2]
  simp [List.getElem?_eq_getElem hm1]
theorem IsOrder.length {cs : List Cmd} {idx : Array Int} (h : IsOrder cs idx) : (lsOf cs idx).length = cs.length := by unfold lsOf; rw [List.length_map, Array.length_toList, h.size]
theorem IsOrder.list {cs : List Cmd} {idx : Array Int} (h : IsOrder cs idx) : (lsOf cs idx).Perm cs := by
  have h1 := h.perm.map (fun z : Int => (cs[z.toNat]?).getD cmd0)
  have h2 : ((List.range cs.length).map (fun i : Nat => (i : Int))).map (fun z : Int => (cs[z.toNat]?).getD cmd0) = cs := by
    apply List.ext_getElem
    · simp
    · intro i h3 h4
      simp [List.getElem?_eq_getElem h4]
  rw [h2] at h1
  exact h1
theorem IsOrder.asc2 {cs : List Cmd} {idx : Array Int} (h : IsOrder cs idx) : Asc (lsOf cs idx) := by
  unfold Asc
  rw [List.pairwise_iff_getElem]
  intro i j hi hj hij
  rw [h.length] at hi hj
  obtain ⟨m, c, a1, a2, a3, a4⟩ := h.at hi
  obtain ⟨m', c', b1, b2, b3, b4⟩ := h.at hj
  have e1 : (lsOf cs idx)[i]'(by rw [h.length]; exact hi) = c := by
    rw [List.getElem?_eq_getElem (by rw [h.length]; exact hi)] at a4
    exact Option.some.inj a4
  have e2 : (lsOf cs idx)[j]'(by rw [h.length]; exact hj) = c' := by
    rw [List.getElem?_eq_getElem (by rw [h.length]; exact hj)] at b4
    exact Option.some.inj b4
  rw [e1, e2]
  have q := h.asc i j (Nat.zero_le _) hij hj
  rw [show idx[i]! = (m : Int) by rw [getElem!_def, a1], show idx[j]! = (m' : Int) by rw [getElem!_def, b1]] at q
  unfold keyT at q
  simpa [a3, b3] using q

theorem wpList_append_cmd {W0 : World} (s : HeldW W0 []) {v : Value} {n : Nat} {xs : List Value} (hv : s.w.ownsRow W0.heap.size 42 5 v n xs) (c : Cmd) {ops : Array Oper} {rest : List Oper} {o : Oper} {a : Act} {Q : Exit → Act → World → Prop} (sO xO : Operand)
    (hgd : o.guard = none) (ho : o.op = .call { callee := .builtin .append, args := #[sO, xO], argTypes := #[23, 23] }) (hs : a.eval sO = v) (hx : a.eval xO = .slice (some ⟨s.w.heap.size, 0, none⟩) 1 1) (hn : n ≤ 1000000)
    (H : ∀ v' (s' : HeldW W0 []), s'.w.ownsRow W0.heap.size 42 5 v' (n + 1) (xs ++ c.cells) → wpList Try.prog ops Q rest (a.put o.dst v') s'.w) : wpList Try.prog ops Q (o :: rest) a (s.w.alloc (.cells #[.int .i64 c.k, .int .i64 c.t, .int .i64 c.f, .int .i64 c.n, .slice c.a c.l.length c.cap] 42)) := by
  have hb : (s.w.alloc (.cells #[.int .i64 c.k, .int .i64 c.t, .int .i64 c.f, .int .i64 c.n, .slice c.a c.l.length c.cap] 42)).heap[s.w.heap.size]? = some (.cells #[.int .i64 c.k, .int .i64 c.t, .int .i64 c.f, .int .i64 c.n, .slice c.a c.l.length c.cap] 42 (0, 0)) := heap_new _ _ rfl
  obtain ⟨v', w', hrun, hown, hbl, _⟩ := append_ext (W0 := W0) (W := s.w.alloc (.cells #[.int .i64 c.k, .int .i64 c.t, .int .i64 c.f, .int .i64 c.n, .slice c.a c.l.length c.cap] 42)) (Y := c.cells) (s.below.alloc s.below.size _) (own_later hv ((Below.refl _ _).alloc (Nat.le_refl _) _)) ⟨s.w.heap.size, 0, none⟩ 1 rfl (fun j u hu => by
    rw [Addr.add_mid, Nat.zero_add, cell_of hb]
    simpa [Cmd.cells] using hu) (flat5_one [c]) hn o.type
  refine wpList_plain hgd fun K hK => ?_
  unfold Oper.wp
  simp [execOp, ho, resolve, invoke, builtin, hs, hx, hrun, Result.andThen]
  exact hK _ _ (H v' ⟨w', hbl, by simp⟩ hown)

def DSortPost (o n : Int) (x y : List Int) (cs : List Cmd) (w : World) (e : Ending) (w' : World) : Prop :=
  ∃ (D' : Array Value) (g : Nat) (ds ls : List Cmd), e = .returned (.agg D') ∧ DeltaOf D' o n x y (.slice (some ⟨g, 0, none⟩) ds.length ds.length) ∧ CmdsIn w' (some ⟨g, 0, none⟩) ds ds.length ∧ cores ds = cores ls ∧ ls.Perm cs ∧ Asc ls ∧ Below w.heap.size w w'

set_option maxRecDepth 100000 in
set_option maxHeartbeats 8000000 in
theorem dsort_any (D : Array Value) (o n : Int) (x y : List Int) (ca : Option Addr) (cs : List Cmd) (ccap : Nat) (hD : DeltaOf D o n x y (.slice ca cs.length ccap)) (w : World) (h : CmdsIn w ca cs ccap) (hL : cs.length ≤ 1000000) (hsm : ∀ c ∈ cs, c.l.length ≤ 1000000) :
    Calls Try.prog 19 #[.agg D] w (DSortPost o n x y cs w) := by
  have hpost : Hid (∀ (D' : Array Value) (g : Nat) (ds ls : List Cmd) (w' : World), DeltaOf D' o n x y (.slice (some ⟨g, 0, none⟩) ds.length ds.length) → CmdsIn w' (some ⟨g, 0, none⟩) ds ds.length → cores ds = cores ls → ls.Perm cs → Asc ls → Below w.heap.size w w' → DSortPost o n x y cs w (.returned (.agg D')) w') := Lib.hid fun D' g ds ls w' h1 h2 h3 h4 h5 h6 => ⟨D', g, ds, ls, rfl, h1, h2, h3, h4, h5, h6⟩
  obtain ⟨S, hS⟩ := start2 w (deltaO D) (deltaO zeroDel)
  have hq := order_any ca cs ccap S.w (h.W S) hL
  have hinf := infoDelta hD
  have hz := zero_delta
  have HC := Lib.hid h
  have HD := Lib.hid hD
  have HSM := Lib.hid hsm
  have HS := Lib.hid hS
  have d2 := (delta_held hD S w.heap.size (by simp)).2.2
  rw [← hS] at d2
  obtain ⟨L, hLe⟩ : ∃ L, L = cs.length := ⟨_, rfl⟩
  have HL := Lib.hid hLe
  have hLcap : L ≤ ccap := by rw [hLe]; exact h.len
  have hccap := h.capb
  rw [← hLe] at hq hL d2 HD
  generalize DSortPost o n x y cs w = POST at hpost ⊢
  clear hD h hsm hS hLe
  go_enter Try.func19, Try.ntmps19
  go_wp2_with fail
  rw [HS.out]
  clear d2 HS
  refine hq.mono ?_
  rintro e w1 ⟨g, idx, rfl, hg0, hidx, hbl, hord⟩
  obtain ⟨S1, hS1⟩ := S.after hbl
  have hDb : w1.heap[w.heap.size]? = some (deltaO D) := by rw [hS1]; exact S1.blocks (w.heap.size, deltaO D) (by simp)
  have hRb : w1.heap[w.heap.size + 1]? = some (deltaO zeroDel) := by rw [hS1]; exact S1.blocks (w.heap.size + 1, deltaO zeroDel) (by simp)
  have hb1 : Below w.heap.size w w1 := by rw [hS1]; exact S1.below
  have HB1 := Lib.hid hb1
  have HDB := Lib.hid hDb
  have HRB := Lib.hid hRb
  have HIX := Lib.hid hidx
  have HORD := Lib.hid hord
  rw [← HL.out]
  clear hS1 S1 hDb hRb hb1 hidx hord hbl hg0 hq S
  dsimp only
  go_wp2_with fail
  go_loopw [3, 5, 10] (fun vl vi vc wr => ∃ (k : Nat), k ≤ L ∧ vc = .int .i64 k ∧ ∃ s : HeldW w1 [], wr = s.w ∧ Hid (s.w.ownsRow w1.heap.size 42 5 vl k (flat5 ((lsOf cs idx).take k)))) (fun _ _ v _ => L - (intOf v).toNat)
  case atStart => exact ⟨0, by omega, rfl, HeldW.start w1, rfl, Lib.hid ⟨rfl, .inl ⟨rfl, rfl⟩⟩⟩
  case round =>
    obtain ⟨k, hk, rfl, s, rfl, hrow⟩ := hrel
    by_cases hlt : k < L
    · obtain ⟨m, c, i1, i2, i3, i4⟩ := HORD.out.at (k := k) (by rw [← HL.out]; exact hlt)
      rw [← HL.out] at i2
      have hcin := HC.out.below (HB1.out.trans (s.below.mono HB1.out.size))
      have d2 : s.w.cell? ⟨w.heap.size, 66, none⟩ = some (.slice ca L ccap) := (cell_of (heap_below HDB.out s.below) 66).trans HD.out.c66
      have z1 : s.w.cell? ⟨g, k, none⟩ = some (.int .i64 m) := by
        rw [cell_of (heap_below HIX.out s.below), Array.getElem?_map, i1]
        rfl
      obtain ⟨b, oo, rfl, x0, x1, x2, x3, x4⟩ := hcin.at i3
      have HI4 := Lib.hid i4
      clear i1 i3 i4 hcin
      go_wp2_with (refine wpList_append_cmd s hrow.out c (.tmp 14) (.tmp 20) rfl rfl rfl rfl (by omega) (fun v' s' hrow' => ?_))
      go_roundw
      case rel => exact ⟨k + 1, by omega, by go_num, s', rfl, Lib.hid (by
        have e : (lsOf cs idx).take (k + 1) = (lsOf cs idx).take k ++ [c] := by rw [List.take_add_one, HI4.out]; rfl
        rw [e, flat5_append]
        exact hrow')⟩
      case measure => simp [intOf]; omega
    · obtain rfl : k = L := by omega
      have hlen : (lsOf cs idx).length = k := by rw [HORD.out.length, ← HL.out]
      have hr := hrow.out
      rw [← hlen, List.take_length] at hr
      have hcs := HC.out.below (HB1.out.trans (s.below.mono HB1.out.size))
      have hmem : ∀ c ∈ lsOf cs idx, c ∈ cs := fun c hc => HORD.out.list.mem_iff.1 hc
      obtain ⟨a8, cap8, rfl, hc8⟩ := row_cmds hr rfl (fun c hc => hcs.ok c (hmem c hc))
      have hw := dwith_any2 D o n x y _ a8 (lsOf cs idx) cap8 HD.out s.w hc8 (by omega) (fun c hc => HSM.out c (hmem c hc))
      have hg : s.w.heap[w.heap.size]? = some (deltaO D) := heap_below HDB.out s.below
      have hg2 : s.w.heap[w.heap.size + 1]? = some (deltaO zeroDel) := heap_below HRB.out s.below
      have hbs : Below w.heap.size w s.w := HB1.out.trans (s.below.mono HB1.out.size)
      have hsz : w.heap.size + 1 < s.w.heap.size := (Array.getElem?_eq_some_iff.1 hg2).1
      have HG2 := Lib.hid hg2
      have HBS := Lib.hid hbs
      have HSZ := Lib.hid hsz
      have HW := Lib.hid hw
      clear hr hlen hcs hmem hc8 hg2 hbs hsz hw hrow
      go_wp2_with (refine wpList_load_row rfl 25 (.tmp 1) rfl w.heap.size rfl 25 _ (0, 0) _ hg Try.underlying25 rfl hinf ?_)
      refine HW.out.mono ?_
      rintro e w2 ⟨X, g2, es, rfl, hX, hes, hco, hbl2, hge, hap⟩
      have hg1 : w2.heap[w.heap.size + 1]? = some (deltaO zeroDel) := heap_below HG2.out hbl2
      have hinfX := infoDelta hX
      have hone := hX.one rfl
      have hszX : zeroDel.size = X.size := by rw [zeroDel_of.size, hX.size]
      have hoth : ∀ j, j ≠ w.heap.size + 1 → (w2.setRow (w.heap.size + 1) X).heap[j]? = w2.heap[j]? := fun j hj => setRow_other _ _ _ _ hj
      have HP : Hid (POST (.returned (.agg X)) (w2.setRow (w.heap.size + 1) X)) := Lib.hid (by
        have hsz := HSZ.out
        refine hpost.out X g2 es (lsOf cs idx) _ hX ?_ hco HORD.out.list HORD.out.asc2 (below_setRow (HBS.out.trans (hbl2.mono HBS.out.size)) (by omega) _)
        refine ⟨hes.len, hes.capb, fun hp => ?_, fun c hc => (hes.ok c hc).apart (hap c hc) (fun j hj _ => hoth j (by omega)), hes.nil⟩
        obtain ⟨b', o', e, hcell⟩ := hes.cells hp
        refine ⟨b', o', e, fun i c hc j u hu => ?_⟩
        simp only [Option.some.injEq, Addr.mk.injEq] at e
        obtain ⟨rfl, rfl, _⟩ := e
        rw [World.cell?_of_block (w := w2) (w' := w2.setRow (w.heap.size + 1) X) (hoth g2 (by omega))]
        exact hcell i c hc j u hu)
      clear hoth hes hco hap hg hX
      go_wp2_with (refine wpList_store_rowTo rfl 25 (.tmp 2) (.tmp 25) rfl rfl (w.heap.size + 1) X rfl rfl 25 zeroDel hg1 hinfX hszX hone ?_)
      refine bodyPost_ret (v := .agg X) ?_ rfl HP.out
      exact results_cell_row Try.results19 _ _ (w.heap.size + 1) 25 _ (0, 0) _ rfl (setRow_heap _ _ _ _ _ _ hg1) Try.underlying25 rfl hinfX
end Go.Proofs.Ytifdeeaoaekokaa
