import Derived.Test.YtefonhnidkfbgaaE07d12
import Derived.Test.YtefonhnidkfbgaaE07d11
import Derived.Laws.StructEq
import Derived.Lib.SlBytesConst
import Derived.Great.BuildSlice
import Derived.Test.YtefonhnidkfbgaaE07d9
import Derived.Test.YtefonhnidkfbgaaE07d14
import Derived.Deep.AppendSrc
import Derived.Deep.Upon
import Derived.Test.YtefonhnidkfbgaaE07d5
import Derived.Test.YtefonhnidkfbgaaE07d6
/- The fault of a delta depends on what its commands hold, not on where: mathematics; the example of the chapter. The example of the chapter. -/
namespace Go.Proofs.Ytefonhnidkfbgaa
open Go.Proofs.Ytefonhnidkfbgaa.Plain01
set_option linter.unusedVariables false

def Cmd.strip (c : Cmd) : Cmd := ⟨c.k, c.t, c.f, c.n, c.l, none, 0⟩
theorem strip_cores {cs ds : List Cmd} (h : cores cs = cores ds) : cs.map Cmd.strip = ds.map Cmd.strip := by
  have e : ∀ l : List Cmd, l.map Cmd.strip = (cores l).map fun p => (⟨p.1, p.2.1, p.2.2.1, p.2.2.2.1, p.2.2.2.2, none, 0⟩ : Cmd) := fun l => by
    unfold cores
    rw [List.map_map]
    rfl
  rw [e, e, h]
theorem refspec_strip {o n : Int} {cs : List Cmd} {e a : Int} : RefSpec o n (cs.map Cmd.strip) e a ↔ RefSpec o n cs e a := by
  have ht : (cs.map Cmd.strip).map Cmd.tgt = cs.map Cmd.tgt := by rw [List.map_map]; rfl
  have hs : ∀ c : Cmd, single o n c.strip = single o n c := fun _ => rfl
  have hall : AllOK o n (cs.map Cmd.strip) ↔ AllOK o n cs := by
    unfold AllOK
    constructor
    · intro h c hc
      rw [← hs]
      exact h _ (List.mem_map_of_mem hc)
    · intro h c hc
      obtain ⟨c', hc', rfl⟩ := List.mem_map.1 hc
      rw [hs]
      exact h c' hc'
  have hov : ∀ i, Over (cs.map Cmd.strip) i ↔ Over cs i := fun i => by
    unfold Over
    constructor
    · rintro ⟨j, a, b, hj, ha, hb, hn⟩
      rw [List.getElem?_map] at ha hb
      obtain ⟨a', ha', rfl⟩ := Option.map_eq_some_iff.1 ha
      obtain ⟨b', hb', rfl⟩ := Option.map_eq_some_iff.1 hb
      exact ⟨j, a', b', hj, ha', hb', hn⟩
    · rintro ⟨j, a, b, hj, ha, hb, hn⟩
      exact ⟨j, a.strip, b.strip, hj, by rw [List.getElem?_map, ha]; rfl, by rw [List.getElem?_map, hb]; rfl, hn⟩
  unfold RefSpec
  rw [ht, hall]
  simp only [hov]
  have h2 : (∃ (i : Nat) (c : Cmd), (cs.map Cmd.strip)[i]? = some c ∧ single o n c ≠ 0 ∧ (∀ (j : Nat) (c' : Cmd), j < i → (cs.map Cmd.strip)[j]? = some c' → single o n c' = 0) ∧ e = single o n c ∧ a = i) ↔ (∃ (i : Nat) (c : Cmd), cs[i]? = some c ∧ single o n c ≠ 0 ∧ (∀ (j : Nat) (c' : Cmd), j < i → cs[j]? = some c' → single o n c' = 0) ∧ e = single o n c ∧ a = i) := by
    constructor
    · rintro ⟨i, c, hc, h1, h2, h3, h4⟩
      rw [List.getElem?_map] at hc
      obtain ⟨c', hc', rfl⟩ := Option.map_eq_some_iff.1 hc
      exact ⟨i, c', hc', h1, fun j d hj hd => by
        have := h2 j d.strip hj (by rw [List.getElem?_map, hd]; rfl)
        exact this, h3, h4⟩
    · rintro ⟨i, c, hc, h1, h2, h3, h4⟩
      exact ⟨i, c.strip, by rw [List.getElem?_map, hc]; rfl, h1, fun j d hj hd => by
        rw [List.getElem?_map] at hd
        obtain ⟨d', hd', rfl⟩ := Option.map_eq_some_iff.1 hd
        exact h2 j d' hj hd', h3, h4⟩
  rw [h2]
theorem RefSpec.of_cores {o n : Int} {cs ds : List Cmd} {e a : Int} (h : RefSpec o n cs e a) (hc : cores ds = cores cs) : RefSpec o n ds e a := by
  rw [← refspec_strip, strip_cores hc, refspec_strip]
  exact h
theorem faultOf_cores {o n : Int} {cs ds : List Cmd} (hc : cores ds = cores cs) : faultOf o n ds = faultOf o n cs := faultOf_eq ((faultOf_spec o n cs).of_cores hc)
theorem valid_cores {o n : Int} {cs ds : List Cmd} (hc : cores ds = cores cs) (h : ValidD o n cs) : ValidD o n ds := by
  rw [← faultOf_zero, faultOf_cores hc, faultOf_zero]
  exact h

/-- The example of the chapter. -/
def exA : Cmd := ⟨1, 2, 0, 4, [], none, 0⟩
def exB (g : Nat) : Cmd := ⟨2, 0, 0, 0, [97, 98], some ⟨g, 0, none⟩, 2⟩
theorem ex_lens : ¬ LensBad 4 6 := by unfold LensBad; omega
theorem ex_sA : single 4 6 exA = 0 := by decide
theorem ex_sB (g : Nat) : single 4 6 (exB g) = 0 := by
  show single 4 6 (exB 0) = 0
  decide
theorem ex_valid (g : Nat) : ValidD 4 6 [exA, exB g] := ⟨ex_lens, fun c hc => by
    simp only [List.mem_cons, List.not_mem_nil, or_false] at hc
    rcases hc with rfl | rfl
    · exact ex_sA
    · exact ex_sB g, by
    show Tiles 0 6 [(2, 4), (0, 2)]
    refine ⟨fun p hp => ?_, ?_, fun x h0 h1 => ?_⟩
    · simp only [List.mem_cons, List.not_mem_nil, or_false] at hp
      rcases hp with rfl | rfl <;> simp
    · simp [Off]
    · by_cases h : x < 2
      · exact ⟨(0, 2), by simp, by simp; omega⟩
      · exact ⟨(2, 4), by simp, by simp; omega⟩⟩
theorem ex_fault (g : Nat) : faultOf 4 6 [exA, exB g] = (0, 0) := faultOf_eq (ex_valid g).spec
theorem ex_gap : faultOf 4 6 [exA] = (3, 0) := by
  refine faultOf_eq (Or.inr (Or.inr (Or.inr (Or.inl ⟨ex_lens, fun c hc => ?_, fun i ho => ?_, 0, ?_, rfl, rfl⟩))))
  · simp only [List.mem_cons, List.not_mem_nil, or_false] at hc
    subst hc; exact ex_sA
  · obtain ⟨j, a, b, hj, ha, _⟩ := ho
    have := (List.getElem?_eq_some_iff.1 ha).1
    simp at this; omega
  · show Gap 6 [(2, 4)] 0
    refine ⟨by omega, by omega, fun ⟨p, hp, h1, h2⟩ => ?_, fun x h0 h1 => by omega⟩
    simp only [List.mem_cons, List.not_mem_nil, or_false] at hp
    subst hp
    simp at h1
theorem ex_find (g : Nat) : findOf [exA, exB g] 1 = 1 := by
  refine findOf_eq ⟨fun h => absurd h (by omega), fun _ => ⟨1, exB g, rfl, rfl, ?_, fun j c hj hc => ?_⟩⟩
  · unfold Cmd.has; show (0 : Int) ≤ 1 ∧ (1 : Int) < 0 + 2; omega
  · obtain rfl : j = 0 := by omega
    cases hc
    unfold Cmd.has
    show ¬ ((2 : Int) ≤ 1 ∧ _)
    omega
theorem ex_cover (g : Nat) : ∀ c ∈ [exA, exB g], okE c.tgt = true ∧ (c.k = 1 ∨ c.k = 2) := fun c hc => by
  simp only [List.mem_cons, List.not_mem_nil, or_false] at hc
  rcases hc with rfl | rfl
  · exact ⟨by decide, Or.inl rfl⟩
  · exact ⟨by show okE (exB 0).tgt = true; decide, Or.inr rfl⟩
end Go.Proofs.Ytefonhnidkfbgaa

namespace Go.Proofs.Ytefonhnidkfbgaa
open Go.RowKit Go.Shelf Go.Proofs.Ytefonhnidkfbgaa.Plain01
set_option linter.unusedVariables false
set_option linter.unusedSimpArgs false

/-- The blocks of the example. -/
abbrev exRow (g : Nat) : Obj := .cells #[.int .i64 1, .int .i64 2, .int .i64 0, .int .i64 4, .slice none 0 0, .int .i64 2, .int .i64 0, .int .i64 0, .int .i64 0, .slice (some ⟨g, 0, none⟩) 2 2] 58 (0, 0)
abbrev exAB : Obj := .cells #[.int .u8 97, .int .u8 98] 5 (2, 3)
abbrev exW (w : World) (D : Array Value) : World := ((((w.alloc (cmdO 1 2 0 4 (.slice none 0 0))).alloc exAB).alloc (cmdO 2 0 0 0 (.slice (some ⟨w.heap.size + 1, 0, none⟩) 2 2))).alloc (exRow (w.heap.size + 1))).alloc (deltaO D)
theorem ex_world (w : World) (D : Array Value) : ∃ S : HeldW w [(w.heap.size + 1 + 1 + 1 + 1, deltaO D), (w.heap.size + 1 + 1 + 1, exRow (w.heap.size + 1)), (w.heap.size + 1 + 1, cmdO 2 0 0 0 (.slice (some ⟨w.heap.size + 1, 0, none⟩) 2 2)), (w.heap.size + 1, exAB), (w.heap.size, cmdO 1 2 0 4 (.slice none 0 0))], exW w D = S.w := by
  obtain ⟨S, hS⟩ := start3 w (cmdO 1 2 0 4 (.slice none 0 0)) exAB (cmdO 2 0 0 0 (.slice (some ⟨w.heap.size + 1, 0, none⟩) 2 2))
  have e3 : S.w.heap.size = w.heap.size + 1 + 1 + 1 := by rw [← hS]; simp
  obtain ⟨B, S1, hB, _, _, hS1⟩ := S.more1 (exRow (w.heap.size + 1))
  obtain rfl : B = w.heap.size + 1 + 1 + 1 := hB.trans e3
  have e4 : S1.w.heap.size = w.heap.size + 1 + 1 + 1 + 1 := by rw [← hS1, World.size_alloc, e3]
  obtain ⟨B, S2, hB2, _, _, hS2⟩ := S1.more1 (deltaO D)
  obtain rfl : B = w.heap.size + 1 + 1 + 1 + 1 := hB2.trans e4
  exact ⟨S2, by rw [← hS2, ← hS1, ← hS]⟩
theorem ex_set (w : World) (D : Array Value) : (exW w zeroDel).setRow (w.heap.size + 1 + 1 + 1 + 1) D = exW w D := by
  have e : w.heap.size + 1 + 1 + 1 + 1 = ((((w.alloc (cmdO 1 2 0 4 (.slice none 0 0))).alloc exAB).alloc (cmdO 2 0 0 0 (.slice (some ⟨w.heap.size + 1, 0, none⟩) 2 2))).alloc (exRow (w.heap.size + 1))).heap.size := by simp
  rw [e]
  exact World.setRow_alloc_new _ _ _ _
theorem row_one {W : World} {B : Nat} (hr : W.heap[B]? = some (rowC #[.int .i64 1, .int .i64 2, .int .i64 0, .int .i64 4, .slice none 0 0])) : CmdsIn W (some ⟨B, 0, none⟩) [exA] 1 := by
  refine ⟨by simp, by omega, fun _ => ⟨_, 0, rfl, fun i c hc j u hu => ?_⟩, fun c hc => ?_, fun h => by cases h⟩
  · rw [Nat.zero_add, cell_of hr]
    have hi : i < 1 := by simpa using (List.getElem?_eq_some_iff.1 hc).1
    have hj : j < 5 := by simpa [Cmd.cells] using (List.getElem?_eq_some_iff.1 hu).1
    obtain rfl : i = 0 := by omega
    cases hc
    match j, hj with
    | 0, _ => cases hu; rfl
    | 1, _ => cases hu; rfl
    | 2, _ => cases hu; rfl
    | 3, _ => cases hu; rfl
    | 4, _ => cases hu; rfl
  · simp only [List.mem_cons, List.not_mem_nil, or_false] at hc
    subst hc
    exact ⟨by unfold I64 exA; simp, by unfold I64 exA; simp, by unfold I64 exA; simp, by unfold I64 exA; simp, bytes_nil W, okB_nil⟩
theorem ex_cmds {w W : World} (hr : W.heap[w.heap.size + 1 + 1 + 1]? = some (exRow (w.heap.size + 1))) (hb : W.heap[w.heap.size + 1]? = some exAB) : CmdsIn W (some ⟨w.heap.size + 1 + 1 + 1, 0, none⟩) [exA, exB (w.heap.size + 1)] 2 := by
  refine ⟨by simp, by omega, fun _ => ⟨_, 0, rfl, fun i c hc j u hu => ?_⟩, fun c hc => ?_, fun h => by cases h⟩
  · rw [Nat.zero_add, cell_of hr]
    have hi : i < 2 := by simpa using (List.getElem?_eq_some_iff.1 hc).1
    have hj : j < 5 := by simpa [Cmd.cells] using (List.getElem?_eq_some_iff.1 hu).1
    match i, hi with
    | 0, _ =>
      cases hc
      match j, hj with
      | 0, _ => cases hu; rfl
      | 1, _ => cases hu; rfl
      | 2, _ => cases hu; rfl
      | 3, _ => cases hu; rfl
      | 4, _ => cases hu; rfl
    | 1, _ =>
      cases hc
      match j, hj with
      | 0, _ => cases hu; rfl
      | 1, _ => cases hu; rfl
      | 2, _ => cases hu; rfl
      | 3, _ => cases hu; rfl
      | 4, _ => cases hu; rfl
  · simp only [List.mem_cons, List.not_mem_nil, or_false] at hc
    rcases hc with rfl | rfl
    · exact ⟨by unfold I64 exA; simp, by unfold I64 exA; simp, by unfold I64 exA; simp, by unfold I64 exA; simp, bytes_nil W, okB_nil⟩
    · refine ⟨by unfold I64 exB; simp, by unfold I64 exB; simp, by unfold I64 exB; simp, by unfold I64 exB; simp, ⟨by simp [exB], by simp [exB], fun _ => ⟨_, 0, rfl, fun i hi => ?_⟩, fun h => by cases h⟩, fun x hx => ?_⟩
      · rw [Nat.zero_add, cell_of_row _ _ _ _ _ _ hb]
        have : i = 0 ∨ i = 1 := by simp [exB] at hi; omega
        rcases this with rfl | rfl <;> rfl
      · simp [exB] at hx
        rcases hx with rfl | rfl <;> omega

end Go.Proofs.Ytefonhnidkfbgaa

/- Rows of commands that a call makes and appends to. -/
namespace Go.Proofs.Ytefonhnidkfbgaa
open Go.RowKit Go.Shelf Go.Proofs.Ytefonhnidkfbgaa.Plain01
set_option linter.unusedVariables false
set_option linter.unusedSimpArgs false

/-- The cells of commands, one behind the other. -/
def flat5 (cs : List Cmd) : List Value := cs.flatMap Cmd.cells
theorem flat5_length (cs : List Cmd) : (flat5 cs).length = cs.length * 5 := by
  unfold flat5
  induction cs with
  | nil => rfl
  | cons c cs ih => rw [List.flatMap_cons, List.length_append, ih]; simp [Cmd.cells]; omega
theorem flat5_append (cs ds : List Cmd) : flat5 (cs ++ ds) = flat5 cs ++ flat5 ds := by unfold flat5; rw [List.flatMap_append]
theorem flat5_get : ∀ (cs : List Cmd) (q : Nat) (u : Value), (flat5 cs)[q]? = some u → ∃ c, cs[q / 5]? = some c ∧ c.cells[q % 5]? = some u := by
  intro cs
  induction cs with
  | nil => intro q u h; simp [flat5] at h
  | cons c cs ih =>
    intro q u h
    have hl : c.cells.length = 5 := rfl
    have e : flat5 (c :: cs) = c.cells ++ flat5 cs := rfl
    rw [e] at h
    by_cases hq : q < 5
    · rw [List.getElem?_append_left (by omega)] at h
      exact ⟨c, by rw [show q / 5 = 0 by omega]; rfl, by rwa [show q % 5 = q by omega]⟩
    · rw [List.getElem?_append_right (by omega), hl] at h
      obtain ⟨d, h1, h2⟩ := ih _ _ h
      refine ⟨d, ?_, by rwa [show (q - 5) % 5 = q % 5 by omega] at h2⟩
      rw [show q / 5 = (q - 5) / 5 + 1 by omega]
      exact h1
theorem flat5_put : ∀ (cs : List Cmd) (i j : Nat) (c : Cmd) (u : Value), cs[i]? = some c → c.cells[j]? = some u → (flat5 cs)[i * 5 + j]? = some u := by
  intro cs
  induction cs with
  | nil => intro i j c u h; simp at h
  | cons d cs ih =>
    intro i j c u hc hu
    have hj : j < 5 := by simpa [Cmd.cells] using (List.getElem?_eq_some_iff.1 hu).1
    have hl : d.cells.length = 5 := rfl
    have e : flat5 (d :: cs) = d.cells ++ flat5 cs := rfl
    rw [e]
    cases i with
    | zero =>
      cases hc
      rw [List.getElem?_append_left (by omega), Nat.zero_mul, Nat.zero_add]
      exact hu
    | succ i =>
      rw [List.getElem?_append_right (by omega), hl, show (i + 1) * 5 + j - 5 = i * 5 + j by omega]
      exact ih i j c u hc hu
theorem flat5_one (cs : List Cmd) : ∀ u ∈ flat5 cs, u.oneCell' = true := fun u hu => by
  unfold flat5 at hu
  obtain ⟨c, _, hc⟩ := List.mem_flatMap.1 hu
  simp only [Cmd.cells, List.mem_cons, List.not_mem_nil, or_false] at hc
  rcases hc with rfl | rfl | rfl | rfl | rfl <;> rfl

theorem elem5 : ∃ E : ElemS Try.prog 25 58 5, E.bytes = 56 := by
  have h : (Try.prog.info? 58).map (fun i => (i.zero, i.size, i.bytes)) = some (some (.agg zeroCmd), 5, 56) := by kernel_rfl
  obtain ⟨i, hi, he⟩ := Option.map_eq_some_iff.1 h
  simp only [Prod.mk.injEq] at he
  exact ⟨⟨i, .agg zeroCmd, 56, Try.underlying25, hi, he.1, he.2.1, he.2.2, rfl, by omega⟩, rfl⟩

/-- Commands in a row of the call's own. -/
def IsRow (base n : Nat) (xs : List Value) : Value → World → Prop := fun v w => w.ownsRow base 58 5 v n xs
theorem stable_row (base n : Nat) (xs : List Value) : Stable (fun W W' => Below W.heap.size W W') (IsRow base n xs) := fun v w w' h hE => own_later h hE
/-- A new row without room. -/
def IsE5 (base : Nat) : Value → World → Prop := fun v w => ∃ g, v = .slice (some ⟨g, 0, none⟩) 0 0 ∧ w.ownsRow base 58 5 v 0 []
theorem stable_E5 (base : Nat) : Stable (fun W W' => Below W.heap.size W W') (IsE5 base) := fun v w w' ⟨g, h1, h2⟩ hE => ⟨g, h1, own_later h2 hE⟩
theorem isE5_new {W : World} {base : Nat} (hb : base ≤ W.heap.size) : IsE5 base (.slice (some ⟨W.heap.size, 0, none⟩) 0 0) (W.alloc (.cells #[] 58)) :=
  ⟨W.heap.size, rfl, rfl, .inr ⟨W.heap.size, 0, #[], rfl, hb, heap_new W _ rfl, Nat.le_refl _, by unfold maxLen; omega, rfl, rfl⟩⟩
/-- A new row of one command. -/
def IsOne5 (c : Cmd) : Value → World → Prop := fun v w => ∃ B, v = .slice (some ⟨B, 0, none⟩) 1 1 ∧ w.heap[B]? = some (.cells c.cells.toArray 58 (0, 0))
theorem stable_One5 (c : Cmd) : Stable (fun W W' => Below W.heap.size W W') (IsOne5 c) := fun v w w' ⟨B, h1, h2⟩ hE => ⟨B, h1, (hE.block _ (Array.getElem?_eq_some_iff.1 h2).1).trans h2⟩

/-- An append to it. -/
theorem run_append_fresh5 {W : World} {base : Nat} (hbase : base ≤ W.heap.size) {v : Value} (hv : IsE5 base v W) (ad : Addr) (m c : Nat) (news : List Value) (hl : news.length = m * 5) (hnews : ∀ j u, news[j]? = some u → W.cell? (ad.add j) = some u) (h1 : ∀ u ∈ news, u.oneCell' = true) (hm : m ≤ 1000000) (ty : TypeId) :
    ∃ v' W', (Builtin.append_ #[25, 25] ty #[v, .slice (some ad) m c]).run Try.prog W = .ok v' W' ∧ IsRow base m news v' W' ∧ Below W.heap.size W W' := by
  obtain ⟨E, hE⟩ := elem5
  obtain ⟨g, rfl, ho⟩ := hv
  have hsrc := _root_.Go.Src.ofSlice (P := Try.prog) W (size := E.i.size) (tx := 25) Try.underlying25 ad m c news (by rw [E.hsize, hl]) hnews h1
  by_cases h0 : m = 0
  · subst h0
    obtain rfl := List.eq_nil_of_length_eq_zero (by omega)
    exact ⟨_, _, run_append_nothing (P := Try.prog) W 25 25 ty 58 E.i E.ht E.hi _ 0 0 (Nat.le_refl _) _ hsrc, ho, Below.refl _ _⟩
  · have hold : (Builtin.firstCells E.i.size 0 (.slice (some ⟨g, 0, none⟩) 0 0)).run Try.prog W.drew = .ok ([] : List Value).toArray W.drew :=
      run_firstCells_some W.drew E.i.size 0 ⟨g, 0, none⟩ 0 0 [] (by simp) (fun j v hj => by simp at hj)
    have hrun := run_append_grow_src (P := Try.prog) W 25 25 ty 58 E.i E.z E.ht E.hi E.hz (some ⟨g, 0, none⟩) 0 0 [] hold _ m _ hsrc (by omega) (by omega) (growslice_fits (by omega) (by rw [E.hby, hE]; omega))
    rw [Nat.zero_add] at hrun
    have hG := grownCap_ge W m 0 58
    have hG2 := grownCap_le_maxLen W m 0 58 (by unfold maxLen; omega)
    generalize grownCap W m 0 58 = G at hrun hG hG2
    refine ⟨_, _, hrun, ⟨hl, .inr ⟨W.heap.size, G, _, rfl, hbase, heap_alloc_new W.drew _, hG, hG2, ?_, ?_⟩⟩, (Below.refl _ W).drew.alloc (Nat.le_refl _) _⟩
    · simp only [List.nil_append, Array.size_append, List.size_toArray, size_zeroCells, E.hzs, hl]
      omega
    · simp only [List.nil_append, Array.toList_append]
      rw [← hl]
      exact List.take_left

/-- A row that is the call's own is a slice of commands. -/
theorem row_cmds {W : World} {base n : Nat} {v : Value} {cs : List Cmd} (h : W.ownsRow base 58 5 v n (flat5 cs)) (hn : n = cs.length) (hok : ∀ c ∈ cs, CmdOK W c) : ∃ (a : Option Addr) (cap : Nat), v = .slice a cs.length cap ∧ CmdsIn W a cs cap := by
  subst hn
  rcases h.2 with ⟨rfl, h0⟩ | ⟨g, cap, cur, rfl, hb, hg, hc1, hc2, hsz, htk⟩
  · have : cs = [] := List.eq_nil_of_length_eq_zero h0
    subst this
    exact ⟨none, 0, rfl, ⟨by simp, by omega, fun h => by simp at h, hok, fun _ => rfl⟩⟩
  · refine ⟨_, cap, rfl, ⟨hc1, by unfold maxLen at hc2; omega, fun _ => ⟨g, 0, rfl, fun i c hc j u hu => ?_⟩, hok, fun h => by cases h⟩⟩
    have h5 := flat5_put cs i j c u hc hu
    rw [← htk, List.getElem?_take] at h5
    split at h5
    · rw [Nat.zero_add, cell_of hg]
      simpa using h5
    · cases h5
/-- The cells of some of the commands that came in. -/
theorem cmds_news {W : World} {b o cap : Nat} {cs : List Cmd} (h : CmdsIn W (some ⟨b, o, none⟩) cs cap) (i m : Nat) (hi : i + m ≤ cs.length) : ∀ (j : Nat) (u : Value), (flat5 ((cs.drop i).take m))[j]? = some u → W.cell? ((⟨b, o + i * 5, none⟩ : Addr).add j) = some u := fun j u hu => by
  obtain ⟨c, hc, hcu⟩ := flat5_get _ _ _ hu
  rw [List.getElem?_take] at hc
  split at hc
  · rw [List.getElem?_drop] at hc
    obtain ⟨b', o', e, hcell⟩ := h.cells (by have := (List.getElem?_eq_some_iff.1 hc).1; omega)
    simp only [Option.some.injEq, Addr.mk.injEq] at e
    obtain ⟨rfl, rfl, _⟩ := e
    have := hcell _ c hc _ u hcu
    rw [Addr.add_mid, ← this]
    congr 2
    omega
  · cases hc
/-- A delta with such commands, in memory of its own. -/
def IsDel (o n : Int) (x y : List Int) (cs : List Cmd) : Value → World → Prop := fun v w => ∃ (D : Array Value) (g : Nat) (es : List Cmd), v = .agg D ∧ DeltaOf D o n x y (.slice (some ⟨g, 0, none⟩) es.length es.length) ∧ CmdsIn w (some ⟨g, 0, none⟩) es es.length ∧ cores es = cores cs
theorem stable_del (o n : Int) (x y : List Int) (cs : List Cmd) : Stable (fun W W' => Below W.heap.size W W') (IsDel o n x y cs) := fun v w w' ⟨D, g, es, h1, h2, h3, h4⟩ hE => ⟨D, g, es, h1, h2, h3.below hE, h4⟩
theorem size_cmd (w : World) : (sizeOf (Try.prog.elem 25)).run Try.prog w = .ok 5 w := by kernel_rfl
/-- The first n of them; those behind. -/
theorem cut5_h {b o L cap : Nat} (n : Nat) (hn : n ≤ L) (hL : 0 < L) (hc : L ≤ cap) : ∀ W, (Instr.slice 25 (.slice (some ⟨b, o, none⟩) L cap) none (some (.int .i64 (n : Int))) none).run Try.prog W = .ok (.slice (some ⟨b, o, none⟩) n cap) W := fun W => by
  rw [run_slice_h (P := Try.prog) W 25 _ L cap (by kernel_rfl) .i64 (n : Int) (by omega) (by omega), size_cmd]
  simp only [Result.andThen_ok, sliced, Int.toNat_natCast, Nat.sub_zero]
  rw [if_neg (by omega)]
  simp [Addr.add_mid]
theorem cut5_l {b o L cap : Nat} (n : Nat) (hn : n ≤ L) (hc : L ≤ cap) : ∃ A : Addr, (∀ W, (Instr.slice 25 (.slice (some ⟨b, o, none⟩) L cap) (some (.int .i64 (n : Int))) none none).run Try.prog W = .ok (.slice (some A) (L - n) (cap - n)) W) ∧ (n < L → A = ⟨b, o + n * 5, none⟩) := by
  refine ⟨if cap = n then ⟨b, o, none⟩ else (⟨b, o, none⟩ : Addr).add (n * 5), fun W => ?_, fun h => ?_⟩
  · rw [run_slice_l (P := Try.prog) W 25 _ L cap (by kernel_rfl) .i64 (n : Int) (by omega) (by omega), size_cmd]
    simp only [Result.andThen_ok, sliced, Int.toNat_natCast]
    split <;> rfl
  · rw [if_neg (by omega), Addr.add_mid]
end Go.Proofs.Ytefonhnidkfbgaa

/- Package format: the commands of an encoding are read. -/
namespace Go.Proofs.Ytefonhnidkfbgaa
open Go.RowKit
set_option linter.unusedVariables false
set_option linter.unusedSimpArgs false

/-- Commands whose memory lies at B or above. -/
structure AptCmds (B : Nat) (a : Option Addr) (cs : List Cmd) : Prop where
  row : ∀ ad, a = some ad → B ≤ ad.block
  dat : ∀ c ∈ cs, 0 < c.l.length → ∀ ad, c.a = some ad → B ≤ ad.block
theorem CmdsIn.above {w w' : World} {a : Option Addr} {cs : List Cmd} {cap B : Nat} (h : CmdsIn w a cs cap) (ha : AptCmds B a cs) (hk : ∀ k, B ≤ k → k < w.heap.size → w'.heap[k]? = w.heap[k]?) : CmdsIn w' a cs cap :=
  ⟨h.len, h.capb, fun hp => by
    obtain ⟨b, o, he, hc⟩ := h.cells hp
    refine ⟨b, o, he, fun i c hi j u hu => ?_⟩
    have h1 := hc i c hi j u hu
    have hlt := World.block_lt_of_cell? _ _ h1
    rw [← h1]
    unfold World.cell?
    rw [hk b (ha.row _ he) hlt], fun c hc => ⟨(h.ok c hc).k, (h.ok c hc).t, (h.ok c hc).f, (h.ok c hc).n, bytes_keep (h.ok c hc).b fun hp ad had hlt => hk _ (ha.dat c hc hp ad had) hlt, (h.ok c hc).o⟩, h.nil⟩
theorem AptCmds.mono {B B' : Nat} {a : Option Addr} {cs : List Cmd} (h : AptCmds B a cs) (hb : B' ≤ B) : AptCmds B' a cs := ⟨fun ad had => Nat.le_trans hb (h.row ad had), fun c hc hp ad had => Nat.le_trans hb (h.dat c hc hp ad had)⟩

/-- What the loop keeps. -/
structure CmdLoop (X : World) (g : Nat) (da : Option Addr) (dcap : Nat) (D : List Int) (q : List Core7 × RS) (v : Value) (wr : World) where
  cs : List Cmd
  els : List Sl7
  S : Grow X (some g) [(g, rsO q.2 D.length da dcap), (X.heap.size, frdO g), (X.heap.size + 1, kindsO g)] els 58 5 v cs.length (flat5 cs)
  eq : wr = S.w
  co : cores cs = q.1
  ok : ∀ c ∈ cs, (I64 c.k ∧ I64 c.t ∧ I64 c.f ∧ I64 c.n) ∧ OkB c.l ∧ (c.a, c.l, c.cap) ∈ els ∧ (0 < c.l.length → ∀ ad, c.a = some ad → X.heap.size ≤ ad.block)
  dat : (da, D, dcap) ∈ els
  pl : PlaceR D q.2
/-- What commands hands back. -/
def CmdsPost (g : Nat) (da : Option Addr) (dcap : Nat) (D : List Int) (q : List Core7 × RS) (w : World) (e : Ending) (w' : World) : Prop :=
  ∃ (cs : List Cmd) (a : Option Addr) (cap : Nat), e = .returned (.slice a cs.length cap) ∧ But g w.heap.size w w' ∧ w'.heap[g]? = some (rsO q.2 D.length da dcap) ∧ CmdsIn w' a cs cap ∧ AptCmds w.heap.size a cs ∧ cores cs = q.1
theorem ButO.but {g B : Nat} {w w' : World} (b : ButO (some g) B w w') : But g B w w' := ⟨b.os, b.tape, b.output, b.size, fun k hk hn => b.block k hk (fun e => hn (by cases e; rfl))⟩
theorem CmdLoop.post {X : World} {g : Nat} {da : Option Addr} {dcap : Nat} {D : List Int} {q : List Core7 × RS} {v : Value} {wr : World} (R : CmdLoop X g da dcap D q v wr) : CmdsPost g da dcap D q X (.returned v) wr := by
  obtain ⟨cs, els, S, rfl, hco, hok, hdat, hpl⟩ := R
  have hall : ∀ c ∈ cs, CmdOK S.w c := fun c hc => by
    obtain ⟨⟨h1, h2, h3, h4⟩, h5, h6, _⟩ := hok c hc
    exact ⟨h1, h2, h3, h4, (S.el _ h6).1, h5⟩
  obtain ⟨a, cap, rfl, hcs⟩ := row_cmds (W := S.w) (base := X.heap.size) (n := cs.length) (v := v) (cs := cs) S.own rfl hall
  exact ⟨cs, a, cap, rfl, S.but.but, (S.blocks (g, rsO q.2 D.length da dcap) (by simp)).1, hcs, ⟨fun ad had => (S.own.lt ad.block (by rw [had]; rfl)).1, fun c hc => (hok c hc).2.2.2⟩, hco⟩

theorem Grow.lit {w0 : World} {h : Nat} {bs : List (Nat × Obj)} {els : List Sl7} {e : TypeId} {size : Nat} {v : Value} {n : Nat} {xs : List Value} {P : Program} {f : FuncId} {args : Array Value} {to : Int} {l : List Int} {o o' : Obj} {S : Grow w0 (some h) ((h, o) :: bs) els e size v n xs} (hne : ∀ p ∈ bs, p.1 ≠ h) (hc : Calls P f args S.w (LitPost h o' to l S.w)) :
    Calls P f args S.w fun en w'' => ∃ A C, en = .returned (cmdV 2 to 0 0 (.slice A l.length C)) ∧ (∀ ad, A = some ad → w0.heap.size ≤ ad.block) ∧ ∃ S' : Grow w0 (some h) ((h, o') :: bs) ((A, l, C) :: els) e size v n xs, w'' = S'.w :=
  hc.mono fun _ w'' ⟨A, C, he, hb, ho, hB, hA⟩ => by
    obtain ⟨S1, h1⟩ := S.keep (ButO.of_but hb) ((h, o') :: bs) (List.forall_mem_cons.2 ⟨⟨ho, (S.hown h rfl).1⟩, fun p hp => by
      obtain ⟨h1, h2⟩ := S.blocks p (List.mem_cons_of_mem _ hp)
      exact ⟨(hb.block _ (Array.getElem?_eq_some_iff.1 h1).1 (hne p hp)).trans h1, h2⟩⟩)
    rw [h1] at hB
    obtain ⟨S2, h2⟩ := S1.addEl (A, l, C) hB (fun _ ad had => by
      have := hA ad had
      refine ⟨fun hg => ?_, fun hg => ?_⟩
      · have := S.ownLt hg
        omega
      · have := (S.hown _ hg).2
        omega)
    exact ⟨A, C, he, fun ad had => Nat.le_trans S.but.size (hA ad had).1, S2, h1.trans h2⟩

theorem itR_add (D : List Int) (q : List Core7 × RS) (k m : Nat) : itR D q (k + m) = itR D (itR D q k) m := by
  induction m with
  | zero => rfl
  | succ m ih => rw [← Nat.add_assoc, itR, ih, itR]
theorem itR_end {D : List Int} {q : List Core7 × RS} {k N : Nat} (hk : k < N) (h : (stepR D (itR D q k)).2.c ≠ 0) : itR D q N = stepR D (itR D q k) := by
  obtain ⟨m, rfl⟩ : ∃ m, N = k + 1 + m := ⟨N - (k + 1), by omega⟩
  rw [itR_add]
  have e : itR D q (k + 1) = stepR D (itR D q k) := rfl
  rw [e]
  obtain ⟨l, s⟩ : ∃ x, x = stepR D (itR D q k) := ⟨_, rfl⟩
  exact itR_no D _ (s := (stepR D (itR D q k)).2) h m

theorem stepR_len (D : List Int) (q : List Core7 × RS) : (stepR D q).1.length ≤ q.1.length + 1 := by
  unfold stepR
  split
  · simp
  · split
    · simp
    · simp
theorem itR_len (D : List Int) (q : List Core7 × RS) (k : Nat) : (itR D q k).1.length ≤ q.1.length + k := by
  induction k with
  | zero => exact Nat.le_refl _
  | succ k ih => have := stepR_len D (itR D q k); rw [itR]; omega
theorem bytesR_ok {D : List Int} (hD : OkB D) (k : Int) (s : RS) : OkB (bytesR D k s).1 := by
  unfold bytesR
  split
  · exact okB_nil
  · split
    · exact okB_nil
    · split
      · exact okB_nil
      · exact slice_ok hD _ _
theorem bytesR_len (D : List Int) (k : Int) (s : RS) : (bytesR D k s).1.length ≤ D.length := by
  unfold bytesR
  split
  · simp
  · split
    · simp
    · split
      · simp
      · simp; omega
theorem i64_len7 {D : List Int} {s : RS} : I64 (lengthR D s).1 := by
  have := lengthR_bound D s
  unfold I64
  omega

set_option maxRecDepth 100000 in
set_option maxHeartbeats 8000000 in
theorem commands_any (g dcap : Nat) (da : Option Addr) (D : List Int) (s : RS) (N : Nat) (w : World) (h : RdAt w g da dcap D s) (hN : N < 4294967296) (okD : OkB D) :
    Calls Try.prog 32 #[.agg #[.pointer (some ⟨g, 0, none⟩)], .int .u64 N] w (CmdsPost g da dcap D (itR D ([], s) N) w) := by
  have hgl := (Array.getElem?_eq_some_iff.1 h.rd).1
  have hw2 : Below w.heap.size w ((w.alloc (frdO g)).alloc (kindsO g)) := ((Below.refl _ w).alloc (Nat.le_refl _) _).alloc (by simp) _
  have hR0 : Nonempty (CmdLoop w g da dcap D ([], s) (.slice none 0 0) ((w.alloc (frdO g)).alloc (kindsO g))) := ⟨⟨[], [(da, D, dcap)], ⟨_, ButO.of_below hw2, World.ownsRow_nil _ w.heap.size 58 5, (fun x hx => by cases hx; exact ⟨by simp [Value.ownBlock], by simp; omega⟩), (fun p hp => by
    simp only [List.mem_cons, List.not_mem_nil, or_false] at hp
    rcases hp with rfl | rfl | rfl
    · exact ⟨heap_old (heap_old h.rd _) _, by simp [Value.ownBlock]⟩
    · exact ⟨heap_old (heap_new w _ rfl) _, by simp [Value.ownBlock]⟩
    · exact ⟨heap_new _ _ (by simp), by simp [Value.ownBlock]⟩), (fun p hp => by
    simp only [List.mem_cons, List.not_mem_nil, or_false] at hp
    subst hp
    refine ⟨h.b.below hw2, fun hl ad had => ⟨by simp [Value.ownBlock], fun hg => ?_⟩⟩
    obtain ⟨b, o, he, _⟩ := h.b.cells hl
    rw [he] at had
    cases had
    cases hg
    exact h.ne _ o he rfl)⟩, rfl, rfl, (fun c hc => by simp at hc), by simp, h.pl⟩⟩
  have HR0 := Lib.hid hR0
  have hmm := @run_makeMap Try.prog
  have hu1 := update_1 (w.alloc (frdO g)) (fnV 47 g)
  have hu2 := update_2 (w.alloc (frdO g)) (fnV 47 g) (fnV 48 g)
  rw [World.size_alloc] at hu1 hu2
  have HLEN := Lib.hid h.len
  have HNE := Lib.hid h.ne
  have HPOST := Lib.hid (fun (v : Value) (wr : World) (R : CmdLoop w g da dcap D (itR D ([], s) N) v wr) => R.post)
  obtain ⟨POST, hP⟩ : ∃ P, P = CmdsPost g da dcap D (itR D ([], s) N) w := ⟨_, rfl⟩
  rw [← hP] at HPOST ⊢
  clear hP hR0 h hw2
  go_enter Try.func32, Try.ntmps32
  go_wp2_with fail
  clear hmm hu1 hu2
  go_loopw [6, 17] (fun v i wr => ∃ k : Nat, k ≤ N ∧ i = .int .u64 k ∧ Nonempty (CmdLoop w g da dcap D (itR D ([], s) k) v wr)) (fun _ i _ => N - (intOf i).toNat)
  case atStart => exact ⟨0, by omega, rfl, HR0.out⟩
  case round =>
    clear HR0
    obtain ⟨k, hk, rfl, ⟨R⟩⟩ := hrel
    by_cases hlt : k < N
    · obtain ⟨q, hq⟩ : ∃ q, q = itR D ([], s) k := ⟨_, rfl⟩
      have HQ := Lib.hid hq
      rw [← hq] at R
      obtain ⟨cs, els, S, rfl, hco, hok, hdat, hpl⟩ := R
      have hcl : cs.length ≤ k := by
        have h1 := itR_len D ([], s) k
        rw [← hq, ← hco] at h1
        simpa [cores] using h1
      have h64 : (18446744073709551615 : Int) = 18446744073709551615 := rfl
      have hA := gives_same (at_any g q.2.n D.length dcap da q.2.c q.2.p S.w (S.blocks (g, rsO q.2 D.length da dcap) (by simp)).1)
      have cB := Lib.hid (fun (o : Obj) (els : List Sl7) (v : Value) (n : Nat) (xs : List Value) (S : Grow w (some g) [(g, o), (w.heap.size, frdO g), (w.heap.size + 1, kindsO g)] els 58 5 v n xs) => (show S.w.cell? ⟨w.heap.size, 0, none⟩ = some (.pointer (some ⟨g, 0, none⟩)) from by rw [cell_of (S.blocks (w.heap.size, frdO g) (by simp)).1]; rfl))
      have c0 := cB.out _ _ _ _ _ S
      have HOK := Lib.hid hok
      have HCO := Lib.hid hco
      have HDAT := Lib.hid hdat
      have HPL := Lib.hid hpl
      have hne : Hid (∀ p ∈ [(w.heap.size, frdO g), (w.heap.size + 1, kindsO g)], p.1 ≠ g) := Lib.hid (all2 (Q := fun p : Nat × Obj => p.1 ≠ g) (by simp only; omega) (by simp only; omega))
      obtain ⟨u, hu⟩ : ∃ u, u = uintR D 1 q.2 := ⟨_, rfl⟩
      have HU : Hid (∀ (els : List Sl7) (v : Value) (n : Nat) (xs : List Value) (S : Grow w (some g) [(g, rsO q.2 D.length da dcap), (w.heap.size, frdO g), (w.heap.size + 1, kindsO g)] els 58 5 v n xs), (da, D, dcap) ∈ els → Calls Try.prog 33 #[.pointer (some ⟨g, 0, none⟩), .int .i64 1] S.w (Puts g (rsO u.2 D.length da dcap) (.int .u64 u.1) S.w)) := Lib.hid fun els v n xs S hd => by
        have := wuint_all g dcap da D q.2 S.w 1 (S.blocks (g, rsO q.2 D.length da dcap) (by simp)).1 hpl.n (S.el _ hd).1
        rw [← hu] at this
        exact this
      have HUU := Lib.hid hu
      have HPU := Lib.hid (show PlaceR D u.2 by rw [hu]; exact uintR_place 1 hpl)
      clear hok hco hdat hpl hq hu
      go_wp2_with fail
      refine (Grow.call (S := S) hA).mono ?_
      rintro e _ ⟨rfl, S1, rfl⟩
      clear hA c0
      have c0 := cB.out _ _ _ _ _ S1
      go_wp2_with fail
      clear c0
      refine (Grow.puts (S := S1) hne.out (HU.out _ _ _ _ S1 HDAT.out)).mono ?_
      rintro e _ ⟨rfl, S2, rfl⟩
      have hlk := lookup_kind S2.w (w.heap.size + 1) g (S2.blocks (w.heap.size + 1, kindsO g) (by simp)).1 u.1
      have c0 := cB.out _ _ _ _ _ S2
      clear S S1
      have HNX := Lib.hid (show itR D ([], s) (k + 1) = stepR D q by rw [HQ.out]; rfl)
      obtain ⟨E, hE⟩ := elem5
      have hEb : (cs.length + 1) * E.bytes ≤ 140737488355328 := by rw [hE]; omega
      have hE63 : cs.length + 1 ≤ maxLen := by unfold maxLen; omega
      obtain ⟨a, ha⟩ : ∃ a, a = lengthR D u.2 := ⟨_, rfl⟩
      have HL : Hid (∀ (els : List Sl7) (v : Value) (n : Nat) (xs : List Value) (S : Grow w (some g) [(g, rsO u.2 D.length da dcap), (w.heap.size, frdO g), (w.heap.size + 1, kindsO g)] els 58 5 v n xs), (da, D, dcap) ∈ els → Calls Try.prog 30 #[.pointer (some ⟨g, 0, none⟩)] S.w (Puts g (rsO a.2 D.length da dcap) (.int .i64 a.1) S.w)) := Lib.hid fun els v n xs S hd => by
        have := wlength_all g dcap da D u.2 S.w (S.blocks (g, rsO u.2 D.length da dcap) (by simp)).1 HPU.out.n (S.el _ hd).1
        rw [← ha] at this
        exact this
      have HPA := Lib.hid (show PlaceR D a.2 by rw [ha]; exact lengthR_place HPU.out)
      have HRD := Lib.hid (fun (els : List Sl7) (v : Value) (n : Nat) (xs : List Value) (S : Grow w (some g) [(g, rsO a.2 D.length da dcap), (w.heap.size, frdO g), (w.heap.size + 1, kindsO g)] els 58 5 v n xs) (hd : (da, D, dcap) ∈ els) => (⟨(S.blocks (g, rsO a.2 D.length da dcap) (by simp)).1, (S.el _ hd).1, HPA.out, HNE.out, HLEN.out⟩ : RdAt S.w g da dcap D a.2))
      have HA := Lib.hid ha
      have HIA := Lib.hid (show I64 a.1 by rw [ha]; exact i64_len7)
      clear ha hE hcl
      by_cases hu1 : u.1 = 1
      · have ek : kindV g u.1 = fnV 47 g := by unfold kindV; rw [if_pos hu1]
        have ed : decide (u.1 = 1 ∨ u.1 = 2) = true := by simp [hu1]
        rw [ek, ed] at hlk
        obtain ⟨b, hb⟩ : ∃ b, b = lengthR D a.2 := ⟨_, rfl⟩
        obtain ⟨c, hc⟩ : ∃ c, c = lengthR D b.2 := ⟨_, rfl⟩
        have hst : stepR D q = (q.1 ++ [(1, a.1, b.1, c.1, [])], c.2) := by unfold stepR; rw [← HUU.out, if_pos hu1, ← HA.out, ← hb, ← hc]
        have HST := Lib.hid hst
        have HPC := Lib.hid (show PlaceR D c.2 by rw [hc, hb]; exact lengthR_place (lengthR_place HPA.out))
        have HI := Lib.hid (show I64 b.1 ∧ I64 c.1 by rw [hb, hc]; exact ⟨i64_len7, i64_len7⟩)
        have HCT : Hid (∀ (els : List Sl7) (v : Value) (n : Nat) (xs : List Value) (S : Grow w (some g) [(g, rsO a.2 D.length da dcap), (w.heap.size, frdO g), (w.heap.size + 1, kindsO g)] els 58 5 v n xs), (da, D, dcap) ∈ els → Calls Try.prog 47 #[.agg #[.pointer (some ⟨g, 0, none⟩)], .int .i64 a.1] S.w (Puts g (rsO c.2 D.length da dcap) (cmdV 1 a.1 b.1 c.1 (.slice none 0 0)) S.w)) := Lib.hid fun els v n xs S hd => by
          have := copyTo_any g dcap da D a.2 a.1 S.w (HRD.out els v n xs S hd)
          rw [← hb, ← hc] at this
          exact this
        clear ek ed hu1 hst hb hc
        go_wp2_with fail
        refine (Grow.puts (S := S2) hne.out (HL.out _ _ _ _ S2 HDAT.out)).mono ?_
        rintro e _ ⟨rfl, S3, rfl⟩
        clear hlk c0 S2
        go_wp2_with fail
        refine (Grow.puts (S := S3) hne.out (HCT.out _ _ _ _ S3 HDAT.out)).mono ?_
        rintro e _ ⟨rfl, S4, rfl⟩
        clear S3
        obtain ⟨B5, S5, hB5, hS5⟩ := S4.more (.cells (Cmd.cells ⟨1, a.1, b.1, c.1, [], none, 0⟩).toArray 58 (0, 0))
        have HS5 := Lib.hid hS5
        have HB5 := Lib.hid hB5
        have hcell : ∀ (j : Nat) (x : Value), (Cmd.cells ⟨1, a.1, b.1, c.1, [], none, 0⟩)[j]? = some x → S5.w.cell? ((⟨B5, 0, none⟩ : Addr).add j) = some x := fun j x hx => by
          rw [Addr.add_mid, Nat.zero_add, cell_of (S5.blocks (B5, .cells (Cmd.cells ⟨1, a.1, b.1, c.1, [], none, 0⟩).toArray 58 (0, 0)) (by simp)).1]
          simpa using hx
        have hone : ∀ x ∈ Cmd.cells ⟨1, a.1, b.1, c.1, [], none, 0⟩, x.oneCell' = true := fun x hx => by
          simp only [Cmd.cells, List.mem_cons, List.not_mem_nil, or_false] at hx
          rcases hx with rfl | rfl | rfl | rfl | rfl <;> rfl
        clear hS5 hB5
        go_wp2_with (rw [show (#[.int .i64 1, .int .i64 a.1, .int .i64 b.1, .int .i64 c.1, .slice none 0 0] : Array Value) = (Cmd.cells ⟨1, a.1, b.1, c.1, [], none, 0⟩).toArray from rfl, HS5.out, ← HB5.out]; refine Grow.append E S5 (.tmp 36) (.tmp 42) rfl rfl rfl ⟨B5, 0, none⟩ 1 1 _ rfl rfl hcell hone hE63 hEb ?_; intro v' S6)
        obtain ⟨S7, h7⟩ := S6.addEl (none, [], 0) (nil_in _) (fun hp => by simp at hp)
        obtain ⟨S8, h8⟩ := S7.sub (bs' := [(g, rsO c.2 D.length da dcap), (w.heap.size, frdO g), (w.heap.size + 1, kindsO g)]) (fun p hp => List.mem_cons_of_mem _ hp)
        obtain ⟨S9, h9⟩ := S8.conv (n' := (cs ++ [(⟨1, a.1, b.1, c.1, [], none, 0⟩ : Cmd)]).length) (xs' := flat5 (cs ++ [(⟨1, a.1, b.1, c.1, [], none, 0⟩ : Cmd)])) (by simp) (by rw [flat5_append]; simp [flat5])
        have HR : Hid (Nonempty (CmdLoop w g da dcap D (itR D ([], s) (k + 1)) v' S6.w)) := Lib.hid (by
          rw [HNX.out, HST.out]
          refine ⟨⟨_, _, S9, h7.trans (h8.trans h9), ?_, fun d hd => ?_, List.mem_cons_of_mem _ HDAT.out, HPC.out⟩⟩
          · unfold cores at HCO ⊢
            rw [List.map_append, HCO.out]
            rfl
          · rcases List.mem_append.1 hd with hd | hd
            · obtain ⟨h1, h2, h3, h4⟩ := HOK.out d hd
              exact ⟨h1, h2, List.mem_cons_of_mem _ h3, h4⟩
            · obtain rfl := List.mem_singleton.1 hd
              exact ⟨⟨by unfold I64; simp, HIA.out, HI.out.1, HI.out.2⟩, okB_nil, List.mem_cons_self, fun hp => by simp at hp⟩)
        clear h7 h8 h9 S7 S8 S9 hcell hone
        generalize S6.w = W6 at HR ⊢
        go_wp2
        go_roundw
        case rel => exact ⟨k + 1, by omega, by go_num, HR.out⟩
        case measure => simp [intOf]; omega
      · by_cases hu2 : u.1 = 2
        · have ek : kindV g u.1 = fnV 48 g := by unfold kindV; rw [if_neg hu1, if_pos hu2]
          have ed : decide (u.1 = 1 ∨ u.1 = 2) = true := by simp [hu2]
          rw [ek, ed] at hlk
          obtain ⟨b, hb⟩ : ∃ b, b = lengthR D a.2 := ⟨_, rfl⟩
          obtain ⟨c, hc⟩ : ∃ c, c = bytesR D b.1 b.2 := ⟨_, rfl⟩
          have hst : stepR D q = (q.1 ++ [(2, a.1, 0, 0, c.1)], c.2) := by unfold stepR; rw [← HUU.out, if_neg hu1, if_pos hu2, ← HA.out, ← hb, ← hc]
          have HST := Lib.hid hst
          have HPC := Lib.hid (show PlaceR D c.2 by rw [hc, hb]; exact bytesR_place _ (lengthR_place HPA.out))
          have HOC := Lib.hid (show OkB c.1 by rw [hc]; exact bytesR_ok okD _ _)
          have HCT : Hid (∀ (els : List Sl7) (v : Value) (n : Nat) (xs : List Value) (S : Grow w (some g) [(g, rsO a.2 D.length da dcap), (w.heap.size, frdO g), (w.heap.size + 1, kindsO g)] els 58 5 v n xs), (da, D, dcap) ∈ els → Calls Try.prog 48 #[.agg #[.pointer (some ⟨g, 0, none⟩)], .int .i64 a.1] S.w (LitPost g (rsO c.2 D.length da dcap) a.1 c.1 S.w)) := Lib.hid fun els v n xs S hd => by
            have := literalTo_any g dcap da D a.2 a.1 S.w (HRD.out els v n xs S hd)
            rw [← hb, ← hc] at this
            exact this
          clear ek ed hu1 hu2 hst hb hc
          go_wp2_with fail
          refine (Grow.puts (S := S2) hne.out (HL.out _ _ _ _ S2 HDAT.out)).mono ?_
          rintro e _ ⟨rfl, S3, rfl⟩
          clear hlk c0 S2
          go_wp2_with fail
          refine (Grow.lit (S := S3) hne.out (HCT.out _ _ _ _ S3 HDAT.out)).mono ?_
          rintro e _ ⟨A, C, rfl, hA, S4, rfl⟩
          have HAA := Lib.hid hA
          clear S3 hA
          obtain ⟨B5, S5, hB5, hS5⟩ := S4.more (.cells (Cmd.cells ⟨2, a.1, 0, 0, c.1, A, C⟩).toArray 58 (0, 0))
          have HS5 := Lib.hid hS5
          have HB5 := Lib.hid hB5
          have hcell : ∀ (j : Nat) (x : Value), (Cmd.cells ⟨2, a.1, 0, 0, c.1, A, C⟩)[j]? = some x → S5.w.cell? ((⟨B5, 0, none⟩ : Addr).add j) = some x := fun j x hx => by
            rw [Addr.add_mid, Nat.zero_add, cell_of (S5.blocks (B5, .cells (Cmd.cells ⟨2, a.1, 0, 0, c.1, A, C⟩).toArray 58 (0, 0)) (by simp)).1]
            simpa using hx
          have hone : ∀ x ∈ Cmd.cells ⟨2, a.1, 0, 0, c.1, A, C⟩, x.oneCell' = true := fun x hx => by
            simp only [Cmd.cells, List.mem_cons, List.not_mem_nil, or_false] at hx
            rcases hx with rfl | rfl | rfl | rfl | rfl <;> rfl
          clear hS5 hB5
          go_wp2_with (rw [show (#[.int .i64 2, .int .i64 a.1, .int .i64 0, .int .i64 0, .slice A c.1.length C] : Array Value) = (Cmd.cells ⟨2, a.1, 0, 0, c.1, A, C⟩).toArray from rfl, HS5.out, ← HB5.out]; refine Grow.append E S5 (.tmp 36) (.tmp 42) rfl rfl rfl ⟨B5, 0, none⟩ 1 1 _ rfl rfl hcell hone hE63 hEb ?_; intro v' S6)
          obtain ⟨S8, h8⟩ := S6.sub (bs' := [(g, rsO c.2 D.length da dcap), (w.heap.size, frdO g), (w.heap.size + 1, kindsO g)]) (fun p hp => List.mem_cons_of_mem _ hp)
          obtain ⟨S9, h9⟩ := S8.conv (n' := (cs ++ [(⟨2, a.1, 0, 0, c.1, A, C⟩ : Cmd)]).length) (xs' := flat5 (cs ++ [(⟨2, a.1, 0, 0, c.1, A, C⟩ : Cmd)])) (by simp) (by rw [flat5_append]; simp [flat5])
          have HR : Hid (Nonempty (CmdLoop w g da dcap D (itR D ([], s) (k + 1)) v' S6.w)) := Lib.hid (by
            rw [HNX.out, HST.out]
            refine ⟨⟨_, _, S9, h8.trans h9, ?_, fun d hd => ?_, List.mem_cons_of_mem _ HDAT.out, HPC.out⟩⟩
            · unfold cores at HCO ⊢
              rw [List.map_append, HCO.out]
              rfl
            · rcases List.mem_append.1 hd with hd | hd
              · obtain ⟨h1, h2, h3, h4⟩ := HOK.out d hd
                exact ⟨h1, h2, List.mem_cons_of_mem _ h3, h4⟩
              · obtain rfl := List.mem_singleton.1 hd
                exact ⟨⟨by unfold I64; simp, HIA.out, by unfold I64; simp, by unfold I64; simp⟩, HOC.out, List.mem_cons_self, fun hp ad had => HAA.out ad had⟩)
          clear h8 h9 S8 S9 hcell hone
          generalize S6.w = W6 at HR ⊢
          go_wp2
          go_roundw
          case rel => exact ⟨k + 1, by omega, by go_num, HR.out⟩
          case measure => simp [intOf]; omega
        · have ek : kindV g u.1 = .nilFunc := by unfold kindV; rw [if_neg hu1, if_neg hu2]
          have ed : decide (u.1 = 1 ∨ u.1 = 2) = false := by simp [hu1, hu2]
          rw [ek, ed] at hlk
          have hst : stepR D q = (q.1, u.2.fail 11 q.2.n) := by unfold stepR; rw [← HUU.out, if_neg hu1, if_neg hu2]
          have hfc : (u.2.fail 11 q.2.n).c ≠ 0 := fail_zero (by omega)
          have HEND := Lib.hid (show itR D ([], s) N = (q.1, u.2.fail 11 q.2.n) by rw [← hst, HQ.out]; exact itR_end hlt (by rw [← HQ.out, hst]; exact hfc))
          have hF := wfail_all g dcap da u.2 S2.w D.length 11 q.2.n (S2.blocks (g, rsO u.2 D.length da dcap) (by simp)).1
          have HPF := Lib.hid (HPU.out.fail 11 q.2.n ⟨by omega, by have := HPL.out.n; omega⟩)
          clear ek ed hst hfc hu1 hu2
          go_wp2_with fail
          refine (Grow.puts (S := S2) hne.out hF).mono ?_
          rintro e _ ⟨rfl, S3, rfl⟩
          have HR := Lib.hid (HPOST.out u6 S3.w (by rw [HEND.out]; exact ⟨cs, els, S3, rfl, HCO.out, HOK.out, HDAT.out, HPF.out⟩))
          clear hlk c0 hF S2
          go_wp2
          exact HR.out
    · obtain rfl : k = N := by omega
      have HF := Lib.hid (HPOST.out _ _ R)
      clear R
      go_wp2
      exact HF.out
end Go.Proofs.Ytefonhnidkfbgaa
