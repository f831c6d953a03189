import Derived.Test.YtgmjppjgbalapaaE09q16
import Derived.Test.YtgmjppjgbalapaaE09q12
/- delta.Sort: the commands in the order of their targets. -/
namespace Go.Proofs.Ytgmjppjgbalapaa
open Go.RowKit Go.Shelf Go.Proofs.Ytgmjppjgbalapaa.Plain01
set_option linter.unusedVariables false
set_option linter.unusedSimpArgs false

def cmd0 : Cmd := ⟨0, 0, 0, 0, [], none, 0⟩
/-- The commands as an order of indices says. -/
def lsOf (cs : List Cmd) (idx : Array Int) : List Cmd := idx.toList.map fun z => (cs[z.toNat]?).getD cmd0
theorem IsOrder.at {cs : List Cmd} {idx : Array Int} (h : IsOrder cs idx) {k : Nat} (hk : k < cs.length) : ∃ (m : Nat) (c : Cmd), idx[k]? = some (m : Int) ∧ m < cs.length ∧ cs[m]? = some c ∧ (lsOf cs idx)[k]? = some c := by
  have hks : k < idx.size := by rw [h.size]; exact hk
  have hm : idx[k] ∈ (List.range cs.length).map (fun i : Nat => (i : Int)) := h.perm.mem_iff.1 (by rw [Array.mem_toList_iff]; exact Array.getElem_mem hks)
  obtain ⟨m, hm1, hm2⟩ := List.mem_map.1 hm
  rw [List.mem_range] at hm1
  refine ⟨m, cs[m], by rw [Array.getElem?_eq_getElem hks, hm2], hm1, List.getElem?_eq_getElem hm1, ?_⟩
  unfold lsOf
  rw [List.getElem?_map, Array.getElem?_toList, Array.getElem?_eq_getElem hks, ← hm2]
  simp [List.getElem?_eq_getElem hm1]
theorem IsOrder.length {cs : List Cmd} {idx : Array Int} (h : IsOrder cs idx) : (lsOf cs idx).length = cs.length := by unfold lsOf; rw [List.length_map, Array.length_toList, h.size]
theorem IsOrder.list {cs : List Cmd} {idx : Array Int} (h : IsOrder cs idx) : (lsOf cs idx).Perm cs := by
  have h1 := h.perm.map (fun z : Int => (cs[z.toNat]?).getD cmd0)
  have h2 : ((List.range cs.length).map (fun i : Nat => (i : Int))).map (fun z : Int => (cs[z.toNat]?).getD cmd0) = cs := by
    apply List.ext_getElem
    · simp
    · intro i h3 h4
      simp [List.getElem?_eq_getElem h4]
  rw [h2] at h1
  exact h1
theorem IsOrder.asc2 {cs : List Cmd} {idx : Array Int} (h : IsOrder cs idx) : Asc (lsOf cs idx) := by
  unfold Asc
  rw [List.pairwise_iff_getElem]
  intro i j hi hj hij
  rw [h.length] at hi hj
  obtain ⟨m, c, a1, a2, a3, a4⟩ := h.at hi
  obtain ⟨m', c', b1, b2, b3, b4⟩ := h.at hj
  have e1 : (lsOf cs idx)[i]'(by rw [h.length]; exact hi) = c := by
    rw [List.getElem?_eq_getElem (by rw [h.length]; exact hi)] at a4
    exact Option.some.inj a4
  have e2 : (lsOf cs idx)[j]'(by rw [h.length]; exact hj) = c' := by
    rw [List.getElem?_eq_getElem (by rw [h.length]; exact hj)] at b4
    exact Option.some.inj b4
  rw [e1, e2]
  have q := h.asc i j (Nat.zero_le _) hij hj
  rw [show idx[i]! = (m : Int) by rw [getElem!_def, a1], show idx[j]! = (m' : Int) by rw [getElem!_def, b1]] at q
  unfold keyT at q
  simpa [a3, b3] using q

theorem wpList_append_cmd {W0 : World} (s : HeldW W0 []) {v : Value} {n : Nat} {xs : List Value} (hv : s.w.ownsRow W0.heap.size 26 5 v n xs) (c : Cmd) {ops : Array Oper} {rest : List Oper} {o : Oper} {a : Act} {Q : Exit → Act → World → Prop} (sO xO : Operand)
    (hgd : o.guard = none) (ho : o.op = .call { callee := .builtin .append, args := #[sO, xO], argTypes := #[22, 22] }) (hs : a.eval sO = v) (hx : a.eval xO = .slice (some ⟨s.w.heap.size, 0, none⟩) 1 1) (hn : n ≤ 1000000)
    (H : ∀ v' (s' : HeldW W0 []), s'.w.ownsRow W0.heap.size 26 5 v' (n + 1) (xs ++ c.cells) → wpList Try.prog ops Q rest (a.put o.dst v') s'.w) : wpList Try.prog ops Q (o :: rest) a (s.w.alloc (.cells #[.int .i64 c.k, .int .i64 c.t, .int .i64 c.f, .int .i64 c.n, .slice c.a c.l.length c.cap] 26)) := by
  have hb : (s.w.alloc (.cells #[.int .i64 c.k, .int .i64 c.t, .int .i64 c.f, .int .i64 c.n, .slice c.a c.l.length c.cap] 26)).heap[s.w.heap.size]? = some (.cells #[.int .i64 c.k, .int .i64 c.t, .int .i64 c.f, .int .i64 c.n, .slice c.a c.l.length c.cap] 26 (0, 0)) := heap_new _ _ rfl
  obtain ⟨v', w', hrun, hown, hbl, _⟩ := append_ext (W0 := W0) (W := s.w.alloc (.cells #[.int .i64 c.k, .int .i64 c.t, .int .i64 c.f, .int .i64 c.n, .slice c.a c.l.length c.cap] 26)) (Y := c.cells) (s.below.alloc s.below.size _) (own_later hv ((Below.refl _ _).alloc (Nat.le_refl _) _)) ⟨s.w.heap.size, 0, none⟩ 1 rfl (fun j u hu => by
    rw [Addr.add_mid, Nat.zero_add, cell_of hb]
    simpa [Cmd.cells] using hu) (flat5_one [c]) hn o.type
  refine wpList_plain hgd fun K hK => ?_
  unfold Oper.wp
  simp [execOp, ho, resolve, invoke, builtin, hs, hx, hrun, Result.andThen]
  exact hK _ _ (H v' ⟨w', hbl, by simp⟩ hown)

def DSortPost (o n : Int) (x y : List Int) (cs : List Cmd) (w : World) (e : Ending) (w' : World) : Prop :=
  ∃ (D' : Array Value) (g : Nat) (ds ls : List Cmd), e = .returned (.agg D') ∧ DeltaOf D' o n x y (.slice (some ⟨g, 0, none⟩) ds.length ds.length) ∧ CmdsIn w' (some ⟨g, 0, none⟩) ds ds.length ∧ cores ds = cores ls ∧ ls.Perm cs ∧ Asc ls ∧ Below w.heap.size w w'
/-- The same, and that the memory of the sorted ones is their own. -/
def DSortPost2 (o n : Int) (x y : List Int) (cs : List Cmd) (w : World) (e : Ending) (w' : World) : Prop :=
  ∃ (D' : Array Value) (g : Nat) (ds ls : List Cmd), e = .returned (.agg D') ∧ DeltaOf D' o n x y (.slice (some ⟨g, 0, none⟩) ds.length ds.length) ∧ CmdsIn w' (some ⟨g, 0, none⟩) ds ds.length ∧ cores ds = cores ls ∧ ls.Perm cs ∧ Asc ls ∧ Below w.heap.size w w' ∧ w.heap.size ≤ g ∧ ∀ c ∈ ds, Apart w.heap.size c.a

set_option maxRecDepth 100000 in
set_option maxHeartbeats 8000000 in
theorem dsort_any2 (D : Array Value) (o n : Int) (x y : List Int) (ca : Option Addr) (cs : List Cmd) (ccap : Nat) (hD : DeltaOf D o n x y (.slice ca cs.length ccap)) (w : World) (h : CmdsIn w ca cs ccap) (hL : cs.length ≤ 1000000) (hsm : ∀ c ∈ cs, c.l.length ≤ 1000000) :
    Calls Try.prog 36 #[.agg D] w (DSortPost2 o n x y cs w) := by
  have hpost : Hid (∀ (D' : Array Value) (g : Nat) (ds ls : List Cmd) (w' : World), DeltaOf D' o n x y (.slice (some ⟨g, 0, none⟩) ds.length ds.length) → CmdsIn w' (some ⟨g, 0, none⟩) ds ds.length → cores ds = cores ls → ls.Perm cs → Asc ls → Below w.heap.size w w' → w.heap.size ≤ g → (∀ c ∈ ds, Apart w.heap.size c.a) → DSortPost2 o n x y cs w (.returned (.agg D')) w') := Lib.hid fun D' g ds ls w' h1 h2 h3 h4 h5 h6 h7 h8 => ⟨D', g, ds, ls, rfl, h1, h2, h3, h4, h5, h6, h7, h8⟩
  obtain ⟨S, hS⟩ := start2 w (deltaO D) (deltaO zeroDel)
  have hq := order_any ca cs ccap S.w (h.W S) hL
  have hinf := infoDelta hD
  have hz := zero_delta
  have HC := Lib.hid h
  have HD := Lib.hid hD
  have HSM := Lib.hid hsm
  have HS := Lib.hid hS
  have d2 := (delta_held hD S w.heap.size (by simp)).2.2
  rw [← hS] at d2
  obtain ⟨L, hLe⟩ : ∃ L, L = cs.length := ⟨_, rfl⟩
  have HL := Lib.hid hLe
  have hLcap : L ≤ ccap := by rw [hLe]; exact h.len
  have hccap := h.capb
  rw [← hLe] at hq hL d2 HD
  generalize DSortPost2 o n x y cs w = POST at hpost ⊢
  clear hD h hsm hS hLe
  go_enter Try.func36, Try.ntmps36
  go_wp2_with fail
  rw [HS.out]
  clear d2 HS
  refine hq.mono ?_
  rintro e w1 ⟨g, idx, rfl, hg0, hidx, hbl, hord⟩
  obtain ⟨S1, hS1⟩ := S.after hbl
  have hDb : w1.heap[w.heap.size]? = some (deltaO D) := by rw [hS1]; exact S1.blocks (w.heap.size, deltaO D) (by simp)
  have hRb : w1.heap[w.heap.size + 1]? = some (deltaO zeroDel) := by rw [hS1]; exact S1.blocks (w.heap.size + 1, deltaO zeroDel) (by simp)
  have hb1 : Below w.heap.size w w1 := by rw [hS1]; exact S1.below
  have HB1 := Lib.hid hb1
  have HDB := Lib.hid hDb
  have HRB := Lib.hid hRb
  have HIX := Lib.hid hidx
  have HORD := Lib.hid hord
  rw [← HL.out]
  clear hS1 S1 hDb hRb hb1 hidx hord hbl hg0 hq S
  dsimp only
  go_wp2_with fail
  go_loopw [3, 5, 10] (fun vl vi vc wr => ∃ (k : Nat), k ≤ L ∧ vc = .int .i64 k ∧ ∃ s : HeldW w1 [], wr = s.w ∧ Hid (s.w.ownsRow w1.heap.size 26 5 vl k (flat5 ((lsOf cs idx).take k)))) (fun _ _ v _ => L - (intOf v).toNat)
  case atStart => exact ⟨0, by omega, rfl, HeldW.start w1, rfl, Lib.hid ⟨rfl, .inl ⟨rfl, rfl⟩⟩⟩
  case round =>
    obtain ⟨k, hk, rfl, s, rfl, hrow⟩ := hrel
    by_cases hlt : k < L
    · obtain ⟨m, c, i1, i2, i3, i4⟩ := HORD.out.at (k := k) (by rw [← HL.out]; exact hlt)
      rw [← HL.out] at i2
      have hcin := HC.out.below (HB1.out.trans (s.below.mono HB1.out.size))
      have d2 : s.w.cell? ⟨w.heap.size, 66, none⟩ = some (.slice ca L ccap) := (cell_of (heap_below HDB.out s.below) 66).trans HD.out.c66
      have z1 : s.w.cell? ⟨g, k, none⟩ = some (.int .i64 m) := by
        rw [cell_of (heap_below HIX.out s.below), Array.getElem?_map, i1]
        rfl
      obtain ⟨b, oo, rfl, x0, x1, x2, x3, x4⟩ := hcin.at i3
      have HI4 := Lib.hid i4
      clear i1 i3 i4 hcin
      go_wp2_with (refine wpList_append_cmd s hrow.out c (.tmp 14) (.tmp 20) rfl rfl rfl rfl (by omega) (fun v' s' hrow' => ?_))
      go_roundw
      case rel => exact ⟨k + 1, by omega, by go_num, s', rfl, Lib.hid (by
        have e : (lsOf cs idx).take (k + 1) = (lsOf cs idx).take k ++ [c] := by rw [List.take_add_one, HI4.out]; rfl
        rw [e, flat5_append]
        exact hrow')⟩
      case measure => simp [intOf]; omega
    · obtain rfl : k = L := by omega
      have hlen : (lsOf cs idx).length = k := by rw [HORD.out.length, ← HL.out]
      have hr := hrow.out
      rw [← hlen, List.take_length] at hr
      have hcs := HC.out.below (HB1.out.trans (s.below.mono HB1.out.size))
      have hmem : ∀ c ∈ lsOf cs idx, c ∈ cs := fun c hc => HORD.out.list.mem_iff.1 hc
      obtain ⟨a8, cap8, rfl, hc8⟩ := row_cmds hr rfl (fun c hc => hcs.ok c (hmem c hc))
      have hw := dwith_any2 D o n x y _ a8 (lsOf cs idx) cap8 HD.out s.w hc8 (by omega) (fun c hc => HSM.out c (hmem c hc))
      have hg : s.w.heap[w.heap.size]? = some (deltaO D) := heap_below HDB.out s.below
      have hg2 : s.w.heap[w.heap.size + 1]? = some (deltaO zeroDel) := heap_below HRB.out s.below
      have hbs : Below w.heap.size w s.w := HB1.out.trans (s.below.mono HB1.out.size)
      have hsz : w.heap.size + 1 < s.w.heap.size := (Array.getElem?_eq_some_iff.1 hg2).1
      have HG2 := Lib.hid hg2
      have HBS := Lib.hid hbs
      have HSZ := Lib.hid hsz
      have HW := Lib.hid hw
      clear hr hlen hcs hmem hc8 hg2 hbs hsz hw hrow
      go_wp2_with (refine wpList_load_row rfl 34 (.tmp 1) rfl w.heap.size rfl 34 _ (0, 0) _ hg Try.underlying34 rfl hinf ?_)
      refine HW.out.mono ?_
      rintro e w2 ⟨X, g2, es, rfl, hX, hes, hco, hbl2, hge, hap⟩
      have hg1 : w2.heap[w.heap.size + 1]? = some (deltaO zeroDel) := heap_below HG2.out hbl2
      have hinfX := infoDelta hX
      have hone := hX.one rfl
      have hszX : zeroDel.size = X.size := by rw [zeroDel_of.size, hX.size]
      have hoth : ∀ j, j ≠ w.heap.size + 1 → (w2.setRow (w.heap.size + 1) X).heap[j]? = w2.heap[j]? := fun j hj => setRow_other _ _ _ _ hj
      have HP : Hid (POST (.returned (.agg X)) (w2.setRow (w.heap.size + 1) X)) := Lib.hid (by
        have hsz := HSZ.out
        refine hpost.out X g2 es (lsOf cs idx) _ hX ?_ hco HORD.out.list HORD.out.asc2 (below_setRow (HBS.out.trans (hbl2.mono HBS.out.size)) (by omega) _) (Nat.le_trans HBS.out.size hge) (fun c hc ad had => Nat.le_trans HBS.out.size (hap c hc ad had))
        refine ⟨hes.len, hes.capb, fun hp => ?_, fun c hc => (hes.ok c hc).apart (hap c hc) (fun j hj _ => hoth j (by omega)), hes.nil⟩
        obtain ⟨b', o', e, hcell⟩ := hes.cells hp
        refine ⟨b', o', e, fun i c hc j u hu => ?_⟩
        simp only [Option.some.injEq, Addr.mk.injEq] at e
        obtain ⟨rfl, rfl, _⟩ := e
        rw [World.cell?_of_block (w := w2) (w' := w2.setRow (w.heap.size + 1) X) (hoth g2 (by omega))]
        exact hcell i c hc j u hu)
      clear hoth hes hco hap hg hX
      go_wp2_with (refine wpList_store_rowTo rfl 34 (.tmp 2) (.tmp 25) rfl rfl (w.heap.size + 1) X rfl rfl 34 zeroDel hg1 hinfX hszX hone ?_)
      refine bodyPost_ret (v := .agg X) ?_ rfl HP.out
      exact results_cell_row Try.results36 _ _ (w.heap.size + 1) 34 _ (0, 0) _ rfl (setRow_heap _ _ _ _ _ _ hg1) Try.underlying34 rfl hinfX
theorem dsort_any (D : Array Value) (o n : Int) (x y : List Int) (ca : Option Addr) (cs : List Cmd) (ccap : Nat) (hD : DeltaOf D o n x y (.slice ca cs.length ccap)) (w : World) (h : CmdsIn w ca cs ccap) (hL : cs.length ≤ 1000000) (hsm : ∀ c ∈ cs, c.l.length ≤ 1000000) :
    Calls Try.prog 36 #[.agg D] w (DSortPost o n x y cs w) :=
  (dsort_any2 D o n x y ca cs ccap hD w h hL hsm).mono fun _ _ ⟨D', g, ds, ls, h1, h2, h3, h4, h5, h6, h7, _⟩ => ⟨D', g, ds, ls, h1, h2, h3, h4, h5, h6, h7⟩
end Go.Proofs.Ytgmjppjgbalapaa

/- Totals of package delta and of its reference, at a valid delta. -/
namespace Go.Proofs.Ytgmjppjgbalapaa
open Go.RowKit Go.Shelf Go.Proofs.Ytgmjppjgbalapaa.Plain01
set_option linter.unusedVariables false
set_option linter.unusedSimpArgs false

theorem take_succ_of {cs : List Cmd} {k : Nat} {c : Cmd} (h : cs[k]? = some c) : cs.take (k + 1) = cs.take k ++ [c] := by rw [List.take_add_one, h]; rfl
theorem copied_succ {cs : List Cmd} {k : Nat} {c : Cmd} (h : cs[k]? = some c) : copied (cs.take (k + 1)) = copied (cs.take k) + (if c.k = 1 then c.n else 0) := by rw [take_succ_of h]; simp [copied]
theorem literal_succ {cs : List Cmd} {k : Nat} {c : Cmd} (h : cs[k]? = some c) : literal (cs.take (k + 1)) = literal (cs.take k) + (if c.k = 1 then 0 else (c.l.length : Int)) := by rw [take_succ_of h]; simp [literal]

end Go.Proofs.Ytgmjppjgbalapaa

/- What DeltaSorts needs. -/
namespace Go.Proofs.Ytgmjppjgbalapaa
open Go.RowKit Go.Shelf Go.Proofs.Ytgmjppjgbalapaa.Plain01
set_option linter.unusedVariables false
set_option linter.unusedSimpArgs false

theorem asc_cores {cs ds : List Cmd} (h : cores ds = cores cs) (ha : Asc cs) : Asc ds := by
  unfold Asc at *
  have e : ∀ l : List Cmd, l.Pairwise (fun a b => a.t ≤ b.t) ↔ (cores l).Pairwise (fun a b => a.2.1 ≤ b.2.1) := fun l => by
    unfold cores
    rw [List.pairwise_map]
  rw [e, h, ← e]
  exact ha
def posOf (es : List Cmd) (k : Nat) : Int := ((es.take k).map Cmd.w).sum
theorem posOf_succ {es : List Cmd} {k : Nat} {c : Cmd} (h : es[k]? = some c) : posOf es (k + 1) = posOf es k + c.w := by unfold posOf; rw [take_succ_of h]; simp
theorem chain_pos {n : Int} : ∀ (es : List Cmd) (lo : Int), Chain n lo (es.map Cmd.tgt) → (∀ (k : Nat) (c : Cmd), es[k]? = some c → c.t = lo + posOf es k) ∧ lo + posOf es es.length = n := by
  intro es
  induction es with
  | nil => intro lo h; exact ⟨fun k c hc => by simp at hc, by simp [posOf]; exact h⟩
  | cons e es ih =>
    intro lo h
    obtain ⟨h1, h2⟩ := h
    obtain ⟨a1, a2⟩ := ih _ h2
    have hs : ∀ k, posOf (e :: es) (k + 1) = e.w + posOf es k := fun k => by simp [posOf]
    refine ⟨fun k c hc => ?_, ?_⟩
    · cases k with
      | zero => cases hc; simp [posOf]; exact h1
      | succ k =>
        have := a1 k c hc
        rw [hs, this]
        show lo + e.w + posOf es k = lo + (e.w + posOf es k)
        omega
    · rw [List.length_cons, hs, ← a2]
      show lo + (e.w + posOf es es.length) = lo + e.w + posOf es es.length
      omega
theorem sorted_pos {o n : Int} {es : List Cmd} (hv : ValidD o n es) (ha : Asc es) : (∀ (k : Nat) (c : Cmd), es[k]? = some c → c.t = posOf es k) ∧ posOf es es.length = n := by
  obtain ⟨h1, h2⟩ := chain_pos es 0 (hv.chain ha)
  exact ⟨fun k c hc => by have := h1 k c hc; omega, by omega⟩
theorem sorted_same {o n : Int} {cs ls ms : List Cmd} (hv : ValidD o n cs) (h1 : ls.Perm cs) (a1 : Asc ls) (h2 : ms.Perm cs) (a2 : Asc ms) : ls = ms :=
  asc_unique (h1.trans h2.symm) ((hv.perm h1).strict a1) ((hv.perm h2).strict a2)

theorem wpList_append_new {W : World} {base : Nat} (hbase : base ≤ W.heap.size) {v : Value} (hv : IsE5 base v W) (sp : Option Addr) (m c : Nat) (news : List Value) (hl : news.length = m * 5) (hnil : sp = none → m = 0) (hnews : ∀ ad, sp = some ad → ∀ j u, news[j]? = some u → W.cell? (ad.add j) = some u) (h1 : ∀ u ∈ news, u.oneCell' = true) (hm : m ≤ 1000000)
    {ops : Array Oper} {rest : List Oper} {o : Oper} {a : Act} {Q : Exit → Act → World → Prop} (sO xO : Operand)
    (hgd : o.guard = none) (ho : o.op = .call { callee := .builtin .append, args := #[sO, xO], argTypes := #[22, 22] }) (hs : a.eval sO = v) (hx : a.eval xO = .slice sp m c)
    (H : ∀ v' W', IsRow base m news v' W' → Below W.heap.size W W' → wpList Try.prog ops Q rest (a.put o.dst v') W') : wpList Try.prog ops Q (o :: rest) a W := by
  obtain ⟨v', W', hrun, hrow, hb⟩ := run_append_freshO hbase hv sp m c news hl hnil hnews h1 hm o.type
  refine wpList_plain hgd fun K hK => ?_
  unfold Oper.wp
  simp [execOp, ho, resolve, invoke, builtin, hs, hx, hrun, Result.andThen]
  exact hK _ _ (H v' W' hrow hb)
/-- A row lies on where another block is written. -/
theorem own_store {w : World} {base n : Nat} {v u : Value} {xs : List Value} {B i : Nat} (h : w.ownsRow base 26 5 v n xs) (hB : B < base) : (w.setCell ⟨B, i, none⟩ u).ownsRow base 26 5 v n xs :=
  ⟨h.1, h.2.imp id fun ⟨g, cap, cur, e1, e2, e3, e4⟩ => ⟨g, cap, cur, e1, e2, (Below.heap_setCell _ _ _ _ (by show g ≠ B; omega)).trans e3, e4⟩⟩
/-- A slice of the commands in their order; a delta with them. -/
def IsSl (cs : List Cmd) : Value → World → Prop := fun v w => ∃ (a : Option Addr) (ls : List Cmd) (cap : Nat), v = .slice a ls.length cap ∧ CmdsIn w a ls cap ∧ ls.Perm cs ∧ Asc ls
theorem stable_sl (cs : List Cmd) : Stable (fun W W' => Below W.heap.size W W') (IsSl cs) := fun v w w' ⟨a, ls, cap, h1, h2, h3⟩ hE => ⟨a, ls, cap, h1, h2.below hE, h3⟩
def IsDelS (o n : Int) (x y : List Int) (cs : List Cmd) : Value → World → Prop := fun v w => ∃ (D : Array Value) (a : Option Addr) (ls : List Cmd) (cap : Nat), v = .agg D ∧ DeltaOf D o n x y (.slice a ls.length cap) ∧ CmdsIn w a ls cap ∧ ls.Perm cs ∧ Asc ls
theorem stable_delS (o n : Int) (x y : List Int) (cs : List Cmd) : Stable (fun W W' => Below W.heap.size W W') (IsDelS o n x y cs) := fun v w w' ⟨D, a, ls, cap, h1, h2, h3, h4⟩ hE => ⟨D, a, ls, cap, h1, h2, h3.below hE, h4⟩
end Go.Proofs.Ytgmjppjgbalapaa

/- Blocks, and what Make finds: plain mathematics. No Go text. -/
namespace Go.Proofs.Ytgmjppjgbalapaa
set_option linter.unusedVariables false
set_option linter.unusedSimpArgs false

/-- The smallest index of an item, or -1. -/
def fidx {α : Type} [DecidableEq α] : List α → α → Int
  | [], _ => -1
  | a :: l, x => if a = x then 0 else if fidx l x = -1 then -1 else fidx l x + 1
section
variable {α β : Type} [DecidableEq α] [DecidableEq β]
theorem fidx_ge : ∀ (l : List α) (x : α), -1 ≤ fidx l x ∧ fidx l x < l.length := by
  intro l
  induction l with
  | nil => intro x; simp [fidx]
  | cons a l ih =>
    intro x
    have := ih x
    simp only [fidx, List.length_cons]
    split
    · omega
    · split <;> omega
theorem fidx_none : ∀ (l : List α) (x : α), fidx l x = -1 ↔ x ∉ l := by
  intro l
  induction l with
  | nil => intro x; simp [fidx]
  | cons a l ih =>
    intro x
    have h1 := ih x
    have h2 := fidx_ge l x
    simp only [fidx, List.mem_cons]
    by_cases ha : a = x
    · subst ha; simp
    · rw [if_neg ha]
      by_cases hx : fidx l x = -1
      · rw [if_pos hx]
        have := h1.1 hx
        simp [this, Ne.symm ha]
      · rw [if_neg hx]
        constructor
        · intro h; omega
        · intro h
          exact absurd (h1.2 (fun hm => h (.inr hm))) hx
theorem fidx_some : ∀ (l : List α) (x : α) (i : Nat), fidx l x = i ↔ l[i]? = some x ∧ ∀ j, j < i → l[j]? ≠ some x := by
  intro l
  induction l with
  | nil => intro x i; simp [fidx] <;> omega
  | cons a l ih =>
    intro x i
    have h2 := fidx_ge l x
    simp only [fidx]
    by_cases ha : a = x
    · subst ha
      rw [if_pos rfl]
      cases i with
      | zero => simp
      | succ i =>
        constructor
        · intro h; omega
        · rintro ⟨_, h⟩
          exact absurd rfl (h 0 (by omega))
    · rw [if_neg ha]
      cases i with
      | zero =>
        constructor
        · intro h; split at h <;> omega
        · rintro ⟨h, _⟩
          simp at h
          exact absurd h ha
      | succ i =>
        have h1 := ih x i
        constructor
        · intro h
          split at h
          · omega
          · obtain ⟨h3, h4⟩ := h1.1 (by omega)
            refine ⟨by simpa using h3, fun j hj => ?_⟩
            cases j with
            | zero => simpa using ha
            | succ j => simpa using h4 j (by omega)
        · rintro ⟨h3, h4⟩
          have h5 := h1.2 ⟨by simpa using h3, fun j hj => by simpa using h4 (j + 1) (by omega)⟩
          rw [if_neg (by omega), h5]
          omega
theorem fidx_eq {l : List α} {x : α} {i : Nat} (h1 : l[i]? = some x) (h2 : ∀ j, j < i → l[j]? ≠ some x) : fidx l x = i := (fidx_some l x i).2 ⟨h1, h2⟩
theorem fidx_at {l : List α} {x : α} (h : fidx l x ≠ -1) : ∃ i : Nat, fidx l x = i ∧ l[i]? = some x ∧ i < l.length := by
  have := fidx_ge l x
  obtain ⟨i, hi⟩ : ∃ i : Nat, fidx l x = i := ⟨(fidx l x).toNat, by omega⟩
  have h1 := ((fidx_some l x i).1 hi).1
  exact ⟨i, hi, h1, (List.getElem?_eq_some_iff.1 h1).1⟩
theorem fidx_inj {l : List α} {x y : α} (hx : x ∈ l) (h : fidx l x = fidx l y) : x = y := by
  have h0 : fidx l x ≠ -1 := fun hn => (fidx_none l x).1 hn hx
  obtain ⟨i, hi, hi1, _⟩ := fidx_at h0
  obtain ⟨j, hj, hj1, _⟩ := fidx_at (h ▸ h0)
  obtain rfl : i = j := by omega
  rw [hi1] at hj1
  exact Option.some.inj hj1
/-- The index under a function that tells an item apart. -/
theorem fidx_map (g : α → β) : ∀ (l : List α) (x : α) (y : β), (∀ a ∈ l, g a = y ↔ a = x) → fidx (l.map g) y = fidx l x := by
  intro l
  induction l with
  | nil => intro x y _; rfl
  | cons a l ih =>
    intro x y h
    have h1 := ih x y (fun b hb => h b (List.mem_cons_of_mem _ hb))
    have h2 := h a List.mem_cons_self
    simp only [List.map_cons, fidx, h1]
    by_cases ha : a = x
    · rw [if_pos ha, if_pos (h2.2 ha)]
    · rw [if_neg ha, if_neg (fun hg => ha (h2.1 hg))]
end

/-- The pieces of so many bytes, from each offset. -/
def wins (s : Nat) (l : List Int) : List (List Int) := (List.range (l.length + 1 - s)).map fun i => (l.drop i).take s
theorem wins_length (s : Nat) (l : List Int) : (wins s l).length = l.length + 1 - s := by simp [wins]
theorem wins_get {s : Nat} {l : List Int} {i : Nat} (h : i + s ≤ l.length) : (wins s l)[i]? = some ((l.drop i).take s) := by
  unfold wins
  rw [List.getElem?_map, List.getElem?_range (by omega)]
  rfl
theorem wins_mem {s : Nat} {l u : List Int} (h : u ∈ wins s l) (hs : 1 ≤ s) : ∃ i, i + s ≤ l.length ∧ u = (l.drop i).take s := by
  unfold wins at h
  obtain ⟨i, hi, rfl⟩ := List.mem_map.1 h
  have := List.mem_range.1 hi
  exact ⟨i, by omega, rfl⟩
theorem wins_mem_of {s : Nat} {l : List Int} {i : Nat} (h : i + s ≤ l.length) : (l.drop i).take s ∈ wins s l := List.mem_of_getElem? (wins_get h)
theorem wins_one (l : List Int) : wins 1 l = l.map fun x => [x] := by
  apply List.ext_getElem?
  intro i
  by_cases h : i < l.length
  · rw [wins_get (by omega), List.getElem?_map, List.getElem?_eq_getElem h]
    rw [List.drop_eq_getElem_cons h]
    rfl
  · rw [List.getElem?_eq_none (by rw [wins_length]; omega), List.getElem?_eq_none (by rw [List.length_map]; omega)]
/-- Where each piece of x begins first in a. -/
def firstW (s : Nat) (a x : List Int) : List Int := (wins s x).map fun u => fidx (wins s a) u
theorem firstW_length (s : Nat) (a x : List Int) : (firstW s a x).length = x.length + 1 - s := by unfold firstW; rw [List.length_map, wins_length]
theorem firstW_one (a x : List Int) : x.map (fidx a) = firstW 1 a x := by
  unfold firstW
  rw [wins_one, wins_one, List.map_map]
  congr 1
  funext y
  exact (fidx_map (fun z => [z]) a y [y] (fun b _ => by simp)).symm
/-- Each number together with the one that is t behind it. -/
def pairsL (t : Nat) (l : List Int) : List (Int × Int) := (List.range (l.length - t)).map fun i => (l[i]?.getD 0, l[i + t]?.getD 0)
theorem pairsL_length (t : Nat) (l : List Int) : (pairsL t l).length = l.length - t := by simp [pairsL]
/-- A longer piece by the two pieces at its endsW. -/
def endsW (s t : Nat) (a u : List Int) : Int × Int := (fidx (wins s a) (u.take s), fidx (wins s a) (u.drop t))
theorem pairs_firstW {s t : Nat} (hs : 1 ≤ s) (a x : List Int) : pairsL t (firstW s a x) = (wins (s + t) x).map (endsW s t a) := by
  apply List.ext_getElem?
  intro i
  by_cases h : i + (s + t) ≤ x.length
  · rw [List.getElem?_map, wins_get h]
    unfold pairsL
    rw [List.getElem?_map, List.getElem?_range (by rw [firstW_length]; omega)]
    simp only [Option.map_some, Option.some.injEq]
    unfold endsW firstW
    rw [List.getElem?_map, List.getElem?_map, wins_get (show i + s ≤ x.length by omega), wins_get (show i + t + s ≤ x.length by omega)]
    simp only [Option.map_some, Option.getD_some, List.take_take, List.drop_take, List.drop_drop]
    rw [show min s (s + t) = s by omega, show s + t - t = s by omega]
  · rw [List.getElem?_eq_none (by rw [pairsL_length, firstW_length]; omega), List.getElem?_eq_none (by rw [List.length_map, wins_length]; omega)]
theorem ends_same {s t : Nat} (hs : 1 ≤ s) (ht : t ≤ s) {a u v : List Int} (hu : u ∈ wins (s + t) a) (hv : v.length = s + t) : endsW s t a u = endsW s t a v ↔ u = v := by
  constructor
  · intro h
    obtain ⟨i, hi, rfl⟩ := wins_mem hu (by omega)
    unfold endsW at h
    simp only [Prod.mk.injEq, List.take_take, List.drop_take, List.drop_drop] at h
    rw [show min s (s + t) = s by omega, show s + t - t = s by omega] at h
    have h1 := fidx_inj (wins_mem_of (by omega)) h.1
    have h2 := fidx_inj (wins_mem_of (by omega)) h.2
    apply List.ext_getElem?
    intro j
    by_cases hj : j < s
    · have := congrArg (fun l => l[j]?) h1
      simp only [List.getElem?_take, if_pos hj] at this
      rw [List.getElem?_take, if_pos (by omega), this]
    · by_cases hj2 : j < s + t
      · have := congrArg (fun l => l[j - t]?) h2
        simp only [List.getElem?_take, List.getElem?_drop] at this
        rw [if_pos (by omega)] at this
        rw [List.getElem?_take, if_pos hj2, List.getElem?_drop]
        rw [show i + j = i + t + (j - t) by omega, this, show t + (j - t) = j by omega]
      · rw [List.getElem?_take, if_neg hj2, List.getElem?_eq_none (by omega)]
  · intro h; rw [h]
/-- The size grows by the pairs. -/
theorem firstW_more {s t : Nat} (hs : 1 ≤ s) (ht : t ≤ s) (a x : List Int) : (pairsL t (firstW s a x)).map (fidx (pairsL t (firstW s a a))) = firstW (s + t) a x := by
  rw [pairs_firstW hs, pairs_firstW hs, List.map_map]
  unfold firstW
  apply List.map_congr_left
  intro v hv
  obtain ⟨i, hi, hvi⟩ := wins_mem hv (by omega)
  show fidx ((wins (s + t) a).map (endsW s t a)) (endsW s t a v) = fidx (wins (s + t) a) v
  exact fidx_map _ _ _ _ (fun u hu => ends_same hs ht hu (by rw [hvi, List.length_take, List.length_drop]; omega))

/-- How many bytes are the same at the beginning. -/
def comm : List Int → List Int → Nat
  | a :: l, b :: m => if a = b then comm l m + 1 else 0
  | _, _ => 0
theorem comm_le : ∀ (a b : List Int), comm a b ≤ a.length ∧ comm a b ≤ b.length := by
  intro a
  induction a with
  | nil => intro b; simp [comm]
  | cons x a ih =>
    intro b
    cases b with
    | nil => simp [comm]
    | cons y b =>
      have := ih b
      simp only [comm, List.length_cons]
      split <;> omega
theorem comm_take : ∀ (a b : List Int), a.take (comm a b) = b.take (comm a b) := by
  intro a
  induction a with
  | nil => intro b; simp [comm]
  | cons x a ih =>
    intro b
    cases b with
    | nil => simp [comm]
    | cons y b =>
      simp only [comm]
      split
      · rename_i h; subst h; simp [ih b]
      · simp
theorem comm_ge : ∀ (s : Nat) (a b : List Int), s ≤ a.length → s ≤ b.length → a.take s = b.take s → s ≤ comm a b := by
  intro s
  induction s with
  | zero => intro a b _ _ _; omega
  | succ s ih =>
    intro a b ha hb h
    cases a with
    | nil => simp at ha
    | cons x a =>
      cases b with
      | nil => simp at hb
      | cons y b =>
        simp only [List.take_succ_cons, List.cons.injEq] at h
        simp only [List.length_cons] at ha hb
        have := ih a b (by omega) (by omega) h.2
        simp only [comm, if_pos h.1]
        omega
theorem comm_iff {s : Nat} {a b : List Int} (ha : s ≤ a.length) (hb : s ≤ b.length) : s ≤ comm a b ↔ a.take s = b.take s := by
  refine ⟨fun h => ?_, fun h => comm_ge s a b ha hb h⟩
  have := congrArg (List.take s) (comm_take a b)
  rwa [List.take_take, List.take_take, Nat.min_eq_left h] at this
/-- The walk along two byte strings. -/
theorem comm_step {a b : List Int} {i : Nat} (ha : i < a.length) (hb : i < b.length) (h : a.take i = b.take i) : (a[i]?.getD 0 = b[i]?.getD 0 → a.take (i + 1) = b.take (i + 1)) ∧ (a[i]?.getD 0 ≠ b[i]?.getD 0 → comm a b = i) := by
  rw [List.getElem?_eq_getElem ha, List.getElem?_eq_getElem hb]
  simp only [Option.getD_some]
  have e1 : a.take (i + 1) = a.take i ++ [a[i]] := List.take_succ_eq_append_getElem ha
  have e2 : b.take (i + 1) = b.take i ++ [b[i]] := List.take_succ_eq_append_getElem hb
  refine ⟨fun hx => by rw [e1, e2, h, hx], fun hx => ?_⟩
  have h1 := (comm_iff (Nat.le_of_lt ha) (Nat.le_of_lt hb)).2 h
  have h2 : ¬ i + 1 ≤ comm a b := fun hh => by
    have h3 := (comm_iff (by omega) (by omega)).1 hh
    rw [e1, e2, h] at h3
    have h4 := List.append_cancel_left h3
    simp only [List.cons.injEq, and_true] at h4
    exact hx h4
  omega
theorem comm_end {a b : List Int} {i : Nat} (h : a.take i = b.take i) (hi : i = min a.length b.length) : comm a b = i := by
  have h1 := comm_le a b
  have h2 := (comm_iff (s := i) (by omega) (by omega)).2 h
  omega

/-- Where the bytes to copy begin in old, and how many they are. -/
def findN (old new : List Int) (block : Int) (p : Nat) : Option (Nat × Nat) :=
  if block < 1 ∨ (new.length : Int) - p < block then none
  else if fidx (wins block.toNat old) ((new.drop p).take block.toNat) = -1 then none
  else some ((fidx (wins block.toNat old) ((new.drop p).take block.toNat)).toNat, comm (old.drop (fidx (wins block.toNat old) ((new.drop p).take block.toNat)).toNat) (new.drop p))
theorem findN_some {old new : List Int} {block : Int} {p q n : Nat} (h : findN old new block p = some (q, n)) : 1 ≤ n ∧ q + n ≤ old.length ∧ p + n ≤ new.length ∧ (old.drop q).take n = (new.drop p).take n := by
  unfold findN at h
  split at h
  · cases h
  · rename_i h1
    split at h
    · cases h
    · rename_i h2
      obtain ⟨i, hi, hg, hil⟩ := fidx_at h2
      obtain ⟨j, hj, hje⟩ := wins_mem (List.mem_of_getElem? hg) (by omega)
      rw [hi] at h
      simp only [Int.toNat_natCast, Option.some.injEq, Prod.mk.injEq] at h
      obtain ⟨rfl, rfl⟩ := h
      have hil2 : i + block.toNat ≤ old.length := by rw [wins_length] at hil; omega
      rw [wins_get hil2] at hg
      have hg2 := Option.some.inj hg
      have hge := comm_ge block.toNat (old.drop i) (new.drop p) (by rw [List.length_drop]; omega) (by rw [List.length_drop]; omega) hg2
      have hle := comm_le (old.drop i) (new.drop p)
      rw [List.length_drop, List.length_drop] at hle
      exact ⟨by omega, by omega, by omega, comm_take _ _⟩
end Go.Proofs.Ytgmjppjgbalapaa
