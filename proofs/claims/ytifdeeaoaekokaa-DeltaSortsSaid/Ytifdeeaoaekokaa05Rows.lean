/- Rows of commands that a call makes and appends to. -/
import Derived.Deep.AppendSrc
import Derived.Deep.Upon
import Derived.Test.Ytifdeeaoaekokaa00LooseT
import Derived.Test.Ytifdeeaoaekokaa00Piles
import Derived.Test.Ytifdeeaoaekokaa05Alive
namespace Go.Proofs.Ytifdeeaoaekokaa
open Go.RowKit Go.Shelf Go.Proofs.Ytifdeeaoaekokaa.Plain01
set_option linter.unusedVariables false
set_option linter.unusedSimpArgs false

/-- The cells of commands, one behind the other. -/
def flat5 (cs : List Cmd) : List Value := cs.flatMap Cmd.cells
theorem flat5_length (cs : List Cmd) : (flat5 cs).length = cs.length * 5 := by
  unfold flat5
  induction cs with
  | nil => rfl
  | cons c cs ih => rw [List.flatMap_cons, List.length_append, ih]; simp [Cmd.cells]; omega
theorem flat5_append (cs ds : List Cmd) : flat5 (cs ++ ds) = flat5 cs ++ flat5 ds := by unfold flat5; rw [List.flatMap_append]
theorem flat5_get : ∀ (cs : List Cmd) (q : Nat) (u : Value), (flat5 cs)[q]? = some u → ∃ c, cs[q / 5]? = some c ∧ c.cells[q % 5]? = some u := by
  intro cs
  induction cs with
  | nil => intro q u h; simp [flat5] at h
  | cons c cs ih =>
    intro q u h
    have hl : c.cells.length = 5 := rfl
    have e : flat5 (c :: cs) = c.cells ++ flat5 cs := rfl
    rw [e] at h
    by_cases hq : q < 5
    · rw [List.getElem?_append_left (by omega)] at h
      exact ⟨c, by rw [show q / 5 = 0 by omega]; rfl, by rwa [show q % 5 = q by omega]⟩
    · rw [List.getElem?_append_right (by omega), hl] at h
      obtain ⟨d, h1, h2⟩ := ih _ _ h
      refine ⟨d, ?_, by rwa [show (q - 5) % 5 = q % 5 by omega] at h2⟩
      rw [show q / 5 = (q - 5) / 5 + 1 by omega]
      exact h1
theorem flat5_put : ∀ (cs : List Cmd) (i j : Nat) (c : Cmd) (u : Value), cs[i]? = some c → c.cells[j]? = some u → (flat5 cs)[i * 5 + j]? = some u := by
  intro cs
  induction cs with
  | nil => intro i j c u h; simp at h
  | cons d cs ih =>
    intro i j c u hc hu
    have hj : j < 5 := by simpa [Cmd.cells] using (List.getElem?_eq_some_iff.1 hu).1
    have hl : d.cells.length = 5 := rfl
    have e : flat5 (d :: cs) = d.cells ++ flat5 cs := rfl
    rw [e]
    cases i with
    | zero =>
      cases hc
      rw [List.getElem?_append_left (by omega), Nat.zero_mul, Nat.zero_add]
      exact hu
    | succ i =>
      rw [List.getElem?_append_right (by omega), hl, show (i + 1) * 5 + j - 5 = i * 5 + j by omega]
      exact ih i j c u hc hu
theorem flat5_one (cs : List Cmd) : ∀ u ∈ flat5 cs, u.oneCell' = true := fun u hu => by
  unfold flat5 at hu
  obtain ⟨c, _, hc⟩ := List.mem_flatMap.1 hu
  simp only [Cmd.cells, List.mem_cons, List.not_mem_nil, or_false] at hc
  rcases hc with rfl | rfl | rfl | rfl | rfl <;> rfl

theorem elem5 : ∃ E : ElemS Try.prog 23 42 5, E.bytes = 56 := by
  have h : (Try.prog.info? 42).map (fun i => (i.zero, i.size, i.bytes)) = some (some (.agg zeroCmd), 5, 56) := by kernel_rfl
  obtain ⟨i, hi, he⟩ := Option.map_eq_some_iff.1 h
  simp only [Prod.mk.injEq] at he
  exact ⟨⟨i, .agg zeroCmd, 56, Try.underlying23, hi, he.1, he.2.1, he.2.2, rfl, by omega⟩, rfl⟩

/-- Commands in a row of the call's own. -/
def IsRow (base n : Nat) (xs : List Value) : Value → World → Prop := fun v w => w.ownsRow base 42 5 v n xs
theorem stable_row (base n : Nat) (xs : List Value) : Stable (fun W W' => Below W.heap.size W W') (IsRow base n xs) := fun v w w' h hE => own_later h hE
/-- A new row without room. -/
def IsE5 (base : Nat) : Value → World → Prop := fun v w => ∃ g, v = .slice (some ⟨g, 0, none⟩) 0 0 ∧ w.ownsRow base 42 5 v 0 []
theorem stable_E5 (base : Nat) : Stable (fun W W' => Below W.heap.size W W') (IsE5 base) := fun v w w' ⟨g, h1, h2⟩ hE => ⟨g, h1, own_later h2 hE⟩
theorem isE5_new {W : World} {base : Nat} (hb : base ≤ W.heap.size) : IsE5 base (.slice (some ⟨W.heap.size, 0, none⟩) 0 0) (W.alloc (.cells #[] 42)) :=
  ⟨W.heap.size, rfl, rfl, .inr ⟨W.heap.size, 0, #[], rfl, hb, heap_new W _ rfl, Nat.le_refl _, by unfold maxLen; omega, rfl, rfl⟩⟩
/-- A new row of one command. -/
def IsOne5 (c : Cmd) : Value → World → Prop := fun v w => ∃ B, v = .slice (some ⟨B, 0, none⟩) 1 1 ∧ w.heap[B]? = some (.cells c.cells.toArray 42 (0, 0))
theorem stable_One5 (c : Cmd) : Stable (fun W W' => Below W.heap.size W W') (IsOne5 c) := fun v w w' ⟨B, h1, h2⟩ hE => ⟨B, h1, (hE.block _ (Array.getElem?_eq_some_iff.1 h2).1).trans h2⟩

/-- An append to it. -/
theorem run_append_fresh5 {W : World} {base : Nat} (hbase : base ≤ W.heap.size) {v : Value} (hv : IsE5 base v W) (ad : Addr) (m c : Nat) (news : List Value) (hl : news.length = m * 5) (hnews : ∀ j u, news[j]? = some u → W.cell? (ad.add j) = some u) (h1 : ∀ u ∈ news, u.oneCell' = true) (hm : m ≤ 1000000) (ty : TypeId) :
    ∃ v' W', (Builtin.append_ #[23, 23] ty #[v, .slice (some ad) m c]).run Try.prog W = .ok v' W' ∧ IsRow base m news v' W' ∧ Below W.heap.size W W' := by
  obtain ⟨E, hE⟩ := elem5
  obtain ⟨g, rfl, ho⟩ := hv
  have hsrc := _root_.Go.Src.ofSlice (P := Try.prog) W (size := E.i.size) (tx := 23) Try.underlying23 ad m c news (by rw [E.hsize, hl]) hnews h1
  by_cases h0 : m = 0
  · subst h0
    obtain rfl := List.eq_nil_of_length_eq_zero (by omega)
    exact ⟨_, _, run_append_nothing (P := Try.prog) W 23 23 ty 42 E.i E.ht E.hi _ 0 0 (Nat.le_refl _) _ hsrc, ho, Below.refl _ _⟩
  · have hold : (Builtin.firstCells E.i.size 0 (.slice (some ⟨g, 0, none⟩) 0 0)).run Try.prog W.drew = .ok ([] : List Value).toArray W.drew :=
      run_firstCells_some W.drew E.i.size 0 ⟨g, 0, none⟩ 0 0 [] (by simp) (fun j v hj => by simp at hj)
    have hrun := run_append_grow_src (P := Try.prog) W 23 23 ty 42 E.i E.z E.ht E.hi E.hz (some ⟨g, 0, none⟩) 0 0 [] hold _ m _ hsrc (by omega) (by omega) (growslice_fits (by omega) (by rw [E.hby, hE]; omega))
    rw [Nat.zero_add] at hrun
    have hG := grownCap_ge W m 0 42
    have hG2 := grownCap_le_maxLen W m 0 42 (by unfold maxLen; omega)
    generalize grownCap W m 0 42 = G at hrun hG hG2
    refine ⟨_, _, hrun, ⟨hl, .inr ⟨W.heap.size, G, _, rfl, hbase, heap_alloc_new W.drew _, hG, hG2, ?_, ?_⟩⟩, (Below.refl _ W).drew.alloc (Nat.le_refl _) _⟩
    · simp only [List.nil_append, Array.size_append, List.size_toArray, size_zeroCells, E.hzs, hl]
      omega
    · simp only [List.nil_append, Array.toList_append]
      rw [← hl]
      exact List.take_left

/-- A row that is the call's own is a slice of commands. -/
theorem row_cmds {W : World} {base n : Nat} {v : Value} {cs : List Cmd} (h : W.ownsRow base 42 5 v n (flat5 cs)) (hn : n = cs.length) (hok : ∀ c ∈ cs, CmdOK W c) : ∃ (a : Option Addr) (cap : Nat), v = .slice a cs.length cap ∧ CmdsIn W a cs cap := by
  subst hn
  rcases h.2 with ⟨rfl, h0⟩ | ⟨g, cap, cur, rfl, hb, hg, hc1, hc2, hsz, htk⟩
  · have : cs = [] := List.eq_nil_of_length_eq_zero h0
    subst this
    exact ⟨none, 0, rfl, ⟨by simp, by omega, fun h => by simp at h, hok, fun _ => rfl⟩⟩
  · refine ⟨_, cap, rfl, ⟨hc1, by unfold maxLen at hc2; omega, fun _ => ⟨g, 0, rfl, fun i c hc j u hu => ?_⟩, hok, fun h => by cases h⟩⟩
    have h5 := flat5_put cs i j c u hc hu
    rw [← htk, List.getElem?_take] at h5
    split at h5
    · rw [Nat.zero_add, cell_of hg]
      simpa using h5
    · cases h5
/-- The cells of some of the commands that came in. -/
theorem cmds_news {W : World} {b o cap : Nat} {cs : List Cmd} (h : CmdsIn W (some ⟨b, o, none⟩) cs cap) (i m : Nat) (hi : i + m ≤ cs.length) : ∀ (j : Nat) (u : Value), (flat5 ((cs.drop i).take m))[j]? = some u → W.cell? ((⟨b, o + i * 5, none⟩ : Addr).add j) = some u := fun j u hu => by
  obtain ⟨c, hc, hcu⟩ := flat5_get _ _ _ hu
  rw [List.getElem?_take] at hc
  split at hc
  · rw [List.getElem?_drop] at hc
    obtain ⟨b', o', e, hcell⟩ := h.cells (by have := (List.getElem?_eq_some_iff.1 hc).1; omega)
    simp only [Option.some.injEq, Addr.mk.injEq] at e
    obtain ⟨rfl, rfl, _⟩ := e
    have := hcell _ c hc _ u hcu
    rw [Addr.add_mid, ← this]
    congr 2
    omega
  · cases hc
/-- A delta with such commands, in memory of its own. -/
def IsDel (o n : Int) (x y : List Int) (cs : List Cmd) : Value → World → Prop := fun v w => ∃ (D : Array Value) (g : Nat) (es : List Cmd), v = .agg D ∧ DeltaOf D o n x y (.slice (some ⟨g, 0, none⟩) es.length es.length) ∧ CmdsIn w (some ⟨g, 0, none⟩) es es.length ∧ cores es = cores cs
theorem stable_del (o n : Int) (x y : List Int) (cs : List Cmd) : Stable (fun W W' => Below W.heap.size W W') (IsDel o n x y cs) := fun v w w' ⟨D, g, es, h1, h2, h3, h4⟩ hE => ⟨D, g, es, h1, h2, h3.below hE, h4⟩
theorem size_cmd (w : World) : (sizeOf (Try.prog.elem 23)).run Try.prog w = .ok 5 w := by kernel_rfl
/-- The first n of them; those behind. -/
theorem cut5_h {b o L cap : Nat} (n : Nat) (hn : n ≤ L) (hL : 0 < L) (hc : L ≤ cap) : ∀ W, (Instr.slice 23 (.slice (some ⟨b, o, none⟩) L cap) none (some (.int .i64 (n : Int))) none).run Try.prog W = .ok (.slice (some ⟨b, o, none⟩) n cap) W := fun W => by
  rw [run_slice_h (P := Try.prog) W 23 _ L cap (by kernel_rfl) .i64 (n : Int) (by omega) (by omega), size_cmd]
  simp only [Result.andThen_ok, sliced, Int.toNat_natCast, Nat.sub_zero]
  rw [if_neg (by omega)]
  simp [Addr.add_mid]
theorem cut5_l {b o L cap : Nat} (n : Nat) (hn : n ≤ L) (hc : L ≤ cap) : ∃ A : Addr, (∀ W, (Instr.slice 23 (.slice (some ⟨b, o, none⟩) L cap) (some (.int .i64 (n : Int))) none none).run Try.prog W = .ok (.slice (some A) (L - n) (cap - n)) W) ∧ (n < L → A = ⟨b, o + n * 5, none⟩) := by
  refine ⟨if cap = n then ⟨b, o, none⟩ else (⟨b, o, none⟩ : Addr).add (n * 5), fun W => ?_, fun h => ?_⟩
  · rw [run_slice_l (P := Try.prog) W 23 _ L cap (by kernel_rfl) .i64 (n : Int) (by omega) (by omega), size_cmd]
    simp only [Result.andThen_ok, sliced, Int.toNat_natCast]
    split <;> rfl
  · rw [if_neg (by omega), Addr.add_mid]
end Go.Proofs.Ytifdeeaoaekokaa
