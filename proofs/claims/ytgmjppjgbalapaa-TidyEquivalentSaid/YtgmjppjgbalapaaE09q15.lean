import Derived.Test.YtgmjppjgbalapaaE09q13
import Derived.Test.YtgmjppjgbalapaaE09q12
import Derived.Test.YtgmjppjgbalapaaE09q10
import Derived.Laws.StructEq
import Derived.Lib.SlBytesConst
import Derived.Great.BuildSlice
import Derived.Test.YtgmjppjgbalapaaE09q11
import Derived.Test.YtgmjppjgbalapaaE09q14
import Derived.Deep.AppendSrc
import Derived.Deep.Upon
import Derived.Test.YtgmjppjgbalapaaE09q9
/- The fault of a delta depends on what its commands hold, not on where: mathematics; the example of the chapter. The example of the chapter. -/
namespace Go.Proofs.Ytgmjppjgbalapaa
open Go.Proofs.Ytgmjppjgbalapaa.Plain01
set_option linter.unusedVariables false

def Cmd.strip (c : Cmd) : Cmd := ⟨c.k, c.t, c.f, c.n, c.l, none, 0⟩
theorem strip_cores {cs ds : List Cmd} (h : cores cs = cores ds) : cs.map Cmd.strip = ds.map Cmd.strip := by
  have e : ∀ l : List Cmd, l.map Cmd.strip = (cores l).map fun p => (⟨p.1, p.2.1, p.2.2.1, p.2.2.2.1, p.2.2.2.2, none, 0⟩ : Cmd) := fun l => by
    unfold cores
    rw [List.map_map]
    rfl
  rw [e, e, h]
theorem refspec_strip {o n : Int} {cs : List Cmd} {e a : Int} : RefSpec o n (cs.map Cmd.strip) e a ↔ RefSpec o n cs e a := by
  have ht : (cs.map Cmd.strip).map Cmd.tgt = cs.map Cmd.tgt := by rw [List.map_map]; rfl
  have hs : ∀ c : Cmd, single o n c.strip = single o n c := fun _ => rfl
  have hall : AllOK o n (cs.map Cmd.strip) ↔ AllOK o n cs := by
    unfold AllOK
    constructor
    · intro h c hc
      rw [← hs]
      exact h _ (List.mem_map_of_mem hc)
    · intro h c hc
      obtain ⟨c', hc', rfl⟩ := List.mem_map.1 hc
      rw [hs]
      exact h c' hc'
  have hov : ∀ i, Over (cs.map Cmd.strip) i ↔ Over cs i := fun i => by
    unfold Over
    constructor
    · rintro ⟨j, a, b, hj, ha, hb, hn⟩
      rw [List.getElem?_map] at ha hb
      obtain ⟨a', ha', rfl⟩ := Option.map_eq_some_iff.1 ha
      obtain ⟨b', hb', rfl⟩ := Option.map_eq_some_iff.1 hb
      exact ⟨j, a', b', hj, ha', hb', hn⟩
    · rintro ⟨j, a, b, hj, ha, hb, hn⟩
      exact ⟨j, a.strip, b.strip, hj, by rw [List.getElem?_map, ha]; rfl, by rw [List.getElem?_map, hb]; rfl, hn⟩
  unfold RefSpec
  rw [ht, hall]
  simp only [hov]
  have h2 : (∃ (i : Nat) (c : Cmd), (cs.map Cmd.strip)[i]? = some c ∧ single o n c ≠ 0 ∧ (∀ (j : Nat) (c' : Cmd), j < i → (cs.map Cmd.strip)[j]? = some c' → single o n c' = 0) ∧ e = single o n c ∧ a = i) ↔ (∃ (i : Nat) (c : Cmd), cs[i]? = some c ∧ single o n c ≠ 0 ∧ (∀ (j : Nat) (c' : Cmd), j < i → cs[j]? = some c' → single o n c' = 0) ∧ e = single o n c ∧ a = i) := by
    constructor
    · rintro ⟨i, c, hc, h1, h2, h3, h4⟩
      rw [List.getElem?_map] at hc
      obtain ⟨c', hc', rfl⟩ := Option.map_eq_some_iff.1 hc
      exact ⟨i, c', hc', h1, fun j d hj hd => by
        have := h2 j d.strip hj (by rw [List.getElem?_map, hd]; rfl)
        exact this, h3, h4⟩
    · rintro ⟨i, c, hc, h1, h2, h3, h4⟩
      exact ⟨i, c.strip, by rw [List.getElem?_map, hc]; rfl, h1, fun j d hj hd => by
        rw [List.getElem?_map] at hd
        obtain ⟨d', hd', rfl⟩ := Option.map_eq_some_iff.1 hd
        exact h2 j d' hj hd', h3, h4⟩
  rw [h2]
theorem RefSpec.of_cores {o n : Int} {cs ds : List Cmd} {e a : Int} (h : RefSpec o n cs e a) (hc : cores ds = cores cs) : RefSpec o n ds e a := by
  rw [← refspec_strip, strip_cores hc, refspec_strip]
  exact h
theorem faultOf_cores {o n : Int} {cs ds : List Cmd} (hc : cores ds = cores cs) : faultOf o n ds = faultOf o n cs := faultOf_eq ((faultOf_spec o n cs).of_cores hc)
theorem valid_cores {o n : Int} {cs ds : List Cmd} (hc : cores ds = cores cs) (h : ValidD o n cs) : ValidD o n ds := by
  rw [← faultOf_zero, faultOf_cores hc, faultOf_zero]
  exact h

/-- The example of the chapter. -/
def exA : Cmd := ⟨1, 2, 0, 4, [], none, 0⟩
def exB (g : Nat) : Cmd := ⟨2, 0, 0, 0, [97, 98], some ⟨g, 0, none⟩, 2⟩
theorem ex_lens : ¬ LensBad 4 6 := by unfold LensBad; omega
theorem ex_sA : single 4 6 exA = 0 := by decide
theorem ex_sB (g : Nat) : single 4 6 (exB g) = 0 := by
  show single 4 6 (exB 0) = 0
  decide
theorem ex_valid (g : Nat) : ValidD 4 6 [exA, exB g] := ⟨ex_lens, fun c hc => by
    simp only [List.mem_cons, List.not_mem_nil, or_false] at hc
    rcases hc with rfl | rfl
    · exact ex_sA
    · exact ex_sB g, by
    show Tiles 0 6 [(2, 4), (0, 2)]
    refine ⟨fun p hp => ?_, ?_, fun x h0 h1 => ?_⟩
    · simp only [List.mem_cons, List.not_mem_nil, or_false] at hp
      rcases hp with rfl | rfl <;> simp
    · simp [Off]
    · by_cases h : x < 2
      · exact ⟨(0, 2), by simp, by simp; omega⟩
      · exact ⟨(2, 4), by simp, by simp; omega⟩⟩
theorem ex_fault (g : Nat) : faultOf 4 6 [exA, exB g] = (0, 0) := faultOf_eq (ex_valid g).spec
theorem ex_gap : faultOf 4 6 [exA] = (3, 0) := by
  refine faultOf_eq (Or.inr (Or.inr (Or.inr (Or.inl ⟨ex_lens, fun c hc => ?_, fun i ho => ?_, 0, ?_, rfl, rfl⟩))))
  · simp only [List.mem_cons, List.not_mem_nil, or_false] at hc
    subst hc; exact ex_sA
  · obtain ⟨j, a, b, hj, ha, _⟩ := ho
    have := (List.getElem?_eq_some_iff.1 ha).1
    simp at this; omega
  · show Gap 6 [(2, 4)] 0
    refine ⟨by omega, by omega, fun ⟨p, hp, h1, h2⟩ => ?_, fun x h0 h1 => by omega⟩
    simp only [List.mem_cons, List.not_mem_nil, or_false] at hp
    subst hp
    simp at h1
theorem ex_find (g : Nat) : findOf [exA, exB g] 1 = 1 := by
  refine findOf_eq ⟨fun h => absurd h (by omega), fun _ => ⟨1, exB g, rfl, rfl, ?_, fun j c hj hc => ?_⟩⟩
  · unfold Cmd.has; show (0 : Int) ≤ 1 ∧ (1 : Int) < 0 + 2; omega
  · obtain rfl : j = 0 := by omega
    cases hc
    unfold Cmd.has
    show ¬ ((2 : Int) ≤ 1 ∧ _)
    omega
theorem ex_cover (g : Nat) : ∀ c ∈ [exA, exB g], okE c.tgt = true ∧ (c.k = 1 ∨ c.k = 2) := fun c hc => by
  simp only [List.mem_cons, List.not_mem_nil, or_false] at hc
  rcases hc with rfl | rfl
  · exact ⟨by decide, Or.inl rfl⟩
  · exact ⟨by show okE (exB 0).tgt = true; decide, Or.inr rfl⟩
end Go.Proofs.Ytgmjppjgbalapaa

namespace Go.Proofs.Ytgmjppjgbalapaa
open Go.RowKit Go.Shelf Go.Proofs.Ytgmjppjgbalapaa.Plain01
set_option linter.unusedVariables false
set_option linter.unusedSimpArgs false

/-- The blocks of the example. -/
abbrev exRow (g : Nat) : Obj := .cells #[.int .i64 1, .int .i64 2, .int .i64 0, .int .i64 4, .slice none 0 0, .int .i64 2, .int .i64 0, .int .i64 0, .int .i64 0, .slice (some ⟨g, 0, none⟩) 2 2] 26 (0, 0)
abbrev exAB : Obj := .cells #[.int .u8 97, .int .u8 98] 5 (2, 3)
abbrev exW (w : World) (D : Array Value) : World := ((((w.alloc (cmdO 1 2 0 4 (.slice none 0 0))).alloc exAB).alloc (cmdO 2 0 0 0 (.slice (some ⟨w.heap.size + 1, 0, none⟩) 2 2))).alloc (exRow (w.heap.size + 1))).alloc (deltaO D)
theorem ex_world (w : World) (D : Array Value) : ∃ S : HeldW w [(w.heap.size + 1 + 1 + 1 + 1, deltaO D), (w.heap.size + 1 + 1 + 1, exRow (w.heap.size + 1)), (w.heap.size + 1 + 1, cmdO 2 0 0 0 (.slice (some ⟨w.heap.size + 1, 0, none⟩) 2 2)), (w.heap.size + 1, exAB), (w.heap.size, cmdO 1 2 0 4 (.slice none 0 0))], exW w D = S.w := by
  obtain ⟨S, hS⟩ := start3 w (cmdO 1 2 0 4 (.slice none 0 0)) exAB (cmdO 2 0 0 0 (.slice (some ⟨w.heap.size + 1, 0, none⟩) 2 2))
  have e3 : S.w.heap.size = w.heap.size + 1 + 1 + 1 := by rw [← hS]; simp
  obtain ⟨B, S1, hB, _, _, hS1⟩ := S.more1 (exRow (w.heap.size + 1))
  obtain rfl : B = w.heap.size + 1 + 1 + 1 := hB.trans e3
  have e4 : S1.w.heap.size = w.heap.size + 1 + 1 + 1 + 1 := by rw [← hS1, World.size_alloc, e3]
  obtain ⟨B, S2, hB2, _, _, hS2⟩ := S1.more1 (deltaO D)
  obtain rfl : B = w.heap.size + 1 + 1 + 1 + 1 := hB2.trans e4
  exact ⟨S2, by rw [← hS2, ← hS1, ← hS]⟩
theorem ex_set (w : World) (D : Array Value) : (exW w zeroDel).setRow (w.heap.size + 1 + 1 + 1 + 1) D = exW w D := by
  have e : w.heap.size + 1 + 1 + 1 + 1 = ((((w.alloc (cmdO 1 2 0 4 (.slice none 0 0))).alloc exAB).alloc (cmdO 2 0 0 0 (.slice (some ⟨w.heap.size + 1, 0, none⟩) 2 2))).alloc (exRow (w.heap.size + 1))).heap.size := by simp
  rw [e]
  exact World.setRow_alloc_new _ _ _ _
theorem row_one {W : World} {B : Nat} (hr : W.heap[B]? = some (rowC #[.int .i64 1, .int .i64 2, .int .i64 0, .int .i64 4, .slice none 0 0])) : CmdsIn W (some ⟨B, 0, none⟩) [exA] 1 := by
  refine ⟨by simp, by omega, fun _ => ⟨_, 0, rfl, fun i c hc j u hu => ?_⟩, fun c hc => ?_, fun h => by cases h⟩
  · rw [Nat.zero_add, cell_of hr]
    have hi : i < 1 := by simpa using (List.getElem?_eq_some_iff.1 hc).1
    have hj : j < 5 := by simpa [Cmd.cells] using (List.getElem?_eq_some_iff.1 hu).1
    obtain rfl : i = 0 := by omega
    cases hc
    match j, hj with
    | 0, _ => cases hu; rfl
    | 1, _ => cases hu; rfl
    | 2, _ => cases hu; rfl
    | 3, _ => cases hu; rfl
    | 4, _ => cases hu; rfl
  · simp only [List.mem_cons, List.not_mem_nil, or_false] at hc
    subst hc
    exact ⟨by unfold I64 exA; simp, by unfold I64 exA; simp, by unfold I64 exA; simp, by unfold I64 exA; simp, bytes_nil W, okB_nil⟩
theorem ex_cmds {w W : World} (hr : W.heap[w.heap.size + 1 + 1 + 1]? = some (exRow (w.heap.size + 1))) (hb : W.heap[w.heap.size + 1]? = some exAB) : CmdsIn W (some ⟨w.heap.size + 1 + 1 + 1, 0, none⟩) [exA, exB (w.heap.size + 1)] 2 := by
  refine ⟨by simp, by omega, fun _ => ⟨_, 0, rfl, fun i c hc j u hu => ?_⟩, fun c hc => ?_, fun h => by cases h⟩
  · rw [Nat.zero_add, cell_of hr]
    have hi : i < 2 := by simpa using (List.getElem?_eq_some_iff.1 hc).1
    have hj : j < 5 := by simpa [Cmd.cells] using (List.getElem?_eq_some_iff.1 hu).1
    match i, hi with
    | 0, _ =>
      cases hc
      match j, hj with
      | 0, _ => cases hu; rfl
      | 1, _ => cases hu; rfl
      | 2, _ => cases hu; rfl
      | 3, _ => cases hu; rfl
      | 4, _ => cases hu; rfl
    | 1, _ =>
      cases hc
      match j, hj with
      | 0, _ => cases hu; rfl
      | 1, _ => cases hu; rfl
      | 2, _ => cases hu; rfl
      | 3, _ => cases hu; rfl
      | 4, _ => cases hu; rfl
  · simp only [List.mem_cons, List.not_mem_nil, or_false] at hc
    rcases hc with rfl | rfl
    · exact ⟨by unfold I64 exA; simp, by unfold I64 exA; simp, by unfold I64 exA; simp, by unfold I64 exA; simp, bytes_nil W, okB_nil⟩
    · refine ⟨by unfold I64 exB; simp, by unfold I64 exB; simp, by unfold I64 exB; simp, by unfold I64 exB; simp, ⟨by simp [exB], by simp [exB], fun _ => ⟨_, 0, rfl, fun i hi => ?_⟩, fun h => by cases h⟩, fun x hx => ?_⟩
      · rw [Nat.zero_add, cell_of_row _ _ _ _ _ _ hb]
        have : i = 0 ∨ i = 1 := by simp [exB] at hi; omega
        rcases this with rfl | rfl <;> rfl
      · simp [exB] at hx
        rcases hx with rfl | rfl <;> omega

end Go.Proofs.Ytgmjppjgbalapaa

/- Rows of commands that a call makes and appends to. -/
namespace Go.Proofs.Ytgmjppjgbalapaa
open Go.RowKit Go.Shelf Go.Proofs.Ytgmjppjgbalapaa.Plain01
set_option linter.unusedVariables false
set_option linter.unusedSimpArgs false

/-- The cells of commands, one behind the other. -/
def flat5 (cs : List Cmd) : List Value := cs.flatMap Cmd.cells
theorem flat5_length (cs : List Cmd) : (flat5 cs).length = cs.length * 5 := by
  unfold flat5
  induction cs with
  | nil => rfl
  | cons c cs ih => rw [List.flatMap_cons, List.length_append, ih]; simp [Cmd.cells]; omega
theorem flat5_append (cs ds : List Cmd) : flat5 (cs ++ ds) = flat5 cs ++ flat5 ds := by unfold flat5; rw [List.flatMap_append]
theorem flat5_get : ∀ (cs : List Cmd) (q : Nat) (u : Value), (flat5 cs)[q]? = some u → ∃ c, cs[q / 5]? = some c ∧ c.cells[q % 5]? = some u := by
  intro cs
  induction cs with
  | nil => intro q u h; simp [flat5] at h
  | cons c cs ih =>
    intro q u h
    have hl : c.cells.length = 5 := rfl
    have e : flat5 (c :: cs) = c.cells ++ flat5 cs := rfl
    rw [e] at h
    by_cases hq : q < 5
    · rw [List.getElem?_append_left (by omega)] at h
      exact ⟨c, by rw [show q / 5 = 0 by omega]; rfl, by rwa [show q % 5 = q by omega]⟩
    · rw [List.getElem?_append_right (by omega), hl] at h
      obtain ⟨d, h1, h2⟩ := ih _ _ h
      refine ⟨d, ?_, by rwa [show (q - 5) % 5 = q % 5 by omega] at h2⟩
      rw [show q / 5 = (q - 5) / 5 + 1 by omega]
      exact h1
theorem flat5_put : ∀ (cs : List Cmd) (i j : Nat) (c : Cmd) (u : Value), cs[i]? = some c → c.cells[j]? = some u → (flat5 cs)[i * 5 + j]? = some u := by
  intro cs
  induction cs with
  | nil => intro i j c u h; simp at h
  | cons d cs ih =>
    intro i j c u hc hu
    have hj : j < 5 := by simpa [Cmd.cells] using (List.getElem?_eq_some_iff.1 hu).1
    have hl : d.cells.length = 5 := rfl
    have e : flat5 (d :: cs) = d.cells ++ flat5 cs := rfl
    rw [e]
    cases i with
    | zero =>
      cases hc
      rw [List.getElem?_append_left (by omega), Nat.zero_mul, Nat.zero_add]
      exact hu
    | succ i =>
      rw [List.getElem?_append_right (by omega), hl, show (i + 1) * 5 + j - 5 = i * 5 + j by omega]
      exact ih i j c u hc hu
theorem flat5_one (cs : List Cmd) : ∀ u ∈ flat5 cs, u.oneCell' = true := fun u hu => by
  unfold flat5 at hu
  obtain ⟨c, _, hc⟩ := List.mem_flatMap.1 hu
  simp only [Cmd.cells, List.mem_cons, List.not_mem_nil, or_false] at hc
  rcases hc with rfl | rfl | rfl | rfl | rfl <;> rfl

theorem elem5 : ∃ E : ElemS Try.prog 22 26 5, E.bytes = 56 := by
  have h : (Try.prog.info? 26).map (fun i => (i.zero, i.size, i.bytes)) = some (some (.agg zeroCmd), 5, 56) := by kernel_rfl
  obtain ⟨i, hi, he⟩ := Option.map_eq_some_iff.1 h
  simp only [Prod.mk.injEq] at he
  exact ⟨⟨i, .agg zeroCmd, 56, Try.underlying22, hi, he.1, he.2.1, he.2.2, rfl, by omega⟩, rfl⟩

/-- Commands in a row of the call's own. -/
def IsRow (base n : Nat) (xs : List Value) : Value → World → Prop := fun v w => w.ownsRow base 26 5 v n xs
theorem stable_row (base n : Nat) (xs : List Value) : Stable (fun W W' => Below W.heap.size W W') (IsRow base n xs) := fun v w w' h hE => own_later h hE
/-- A new row without room. -/
def IsE5 (base : Nat) : Value → World → Prop := fun v w => ∃ g, v = .slice (some ⟨g, 0, none⟩) 0 0 ∧ w.ownsRow base 26 5 v 0 []
theorem stable_E5 (base : Nat) : Stable (fun W W' => Below W.heap.size W W') (IsE5 base) := fun v w w' ⟨g, h1, h2⟩ hE => ⟨g, h1, own_later h2 hE⟩
theorem isE5_new {W : World} {base : Nat} (hb : base ≤ W.heap.size) : IsE5 base (.slice (some ⟨W.heap.size, 0, none⟩) 0 0) (W.alloc (.cells #[] 26)) :=
  ⟨W.heap.size, rfl, rfl, .inr ⟨W.heap.size, 0, #[], rfl, hb, heap_new W _ rfl, Nat.le_refl _, by unfold maxLen; omega, rfl, rfl⟩⟩
/-- A new row of one command. -/
def IsOne5 (c : Cmd) : Value → World → Prop := fun v w => ∃ B, v = .slice (some ⟨B, 0, none⟩) 1 1 ∧ w.heap[B]? = some (.cells c.cells.toArray 26 (0, 0))
theorem stable_One5 (c : Cmd) : Stable (fun W W' => Below W.heap.size W W') (IsOne5 c) := fun v w w' ⟨B, h1, h2⟩ hE => ⟨B, h1, (hE.block _ (Array.getElem?_eq_some_iff.1 h2).1).trans h2⟩

/-- An append to it. -/
theorem run_append_fresh5 {W : World} {base : Nat} (hbase : base ≤ W.heap.size) {v : Value} (hv : IsE5 base v W) (ad : Addr) (m c : Nat) (news : List Value) (hl : news.length = m * 5) (hnews : ∀ j u, news[j]? = some u → W.cell? (ad.add j) = some u) (h1 : ∀ u ∈ news, u.oneCell' = true) (hm : m ≤ 1000000) (ty : TypeId) :
    ∃ v' W', (Builtin.append_ #[22, 22] ty #[v, .slice (some ad) m c]).run Try.prog W = .ok v' W' ∧ IsRow base m news v' W' ∧ Below W.heap.size W W' := by
  obtain ⟨E, hE⟩ := elem5
  obtain ⟨g, rfl, ho⟩ := hv
  have hsrc := _root_.Go.Src.ofSlice (P := Try.prog) W (size := E.i.size) (tx := 22) Try.underlying22 ad m c news (by rw [E.hsize, hl]) hnews h1
  by_cases h0 : m = 0
  · subst h0
    obtain rfl := List.eq_nil_of_length_eq_zero (by omega)
    exact ⟨_, _, run_append_nothing (P := Try.prog) W 22 22 ty 26 E.i E.ht E.hi _ 0 0 (Nat.le_refl _) _ hsrc, ho, Below.refl _ _⟩
  · have hold : (Builtin.firstCells E.i.size 0 (.slice (some ⟨g, 0, none⟩) 0 0)).run Try.prog W.drew = .ok ([] : List Value).toArray W.drew :=
      run_firstCells_some W.drew E.i.size 0 ⟨g, 0, none⟩ 0 0 [] (by simp) (fun j v hj => by simp at hj)
    have hrun := run_append_grow_src (P := Try.prog) W 22 22 ty 26 E.i E.z E.ht E.hi E.hz (some ⟨g, 0, none⟩) 0 0 [] hold _ m _ hsrc (by omega) (by omega) (growslice_fits (by omega) (by rw [E.hby, hE]; omega))
    rw [Nat.zero_add] at hrun
    have hG := grownCap_ge W m 0 26
    have hG2 := grownCap_le_maxLen W m 0 26 (by unfold maxLen; omega)
    generalize grownCap W m 0 26 = G at hrun hG hG2
    refine ⟨_, _, hrun, ⟨hl, .inr ⟨W.heap.size, G, _, rfl, hbase, heap_alloc_new W.drew _, hG, hG2, ?_, ?_⟩⟩, (Below.refl _ W).drew.alloc (Nat.le_refl _) _⟩
    · simp only [List.nil_append, Array.size_append, List.size_toArray, size_zeroCells, E.hzs, hl]
      omega
    · simp only [List.nil_append, Array.toList_append]
      rw [← hl]
      exact List.take_left

/-- A row that is the call's own is a slice of commands. -/
theorem row_cmds {W : World} {base n : Nat} {v : Value} {cs : List Cmd} (h : W.ownsRow base 26 5 v n (flat5 cs)) (hn : n = cs.length) (hok : ∀ c ∈ cs, CmdOK W c) : ∃ (a : Option Addr) (cap : Nat), v = .slice a cs.length cap ∧ CmdsIn W a cs cap := by
  subst hn
  rcases h.2 with ⟨rfl, h0⟩ | ⟨g, cap, cur, rfl, hb, hg, hc1, hc2, hsz, htk⟩
  · have : cs = [] := List.eq_nil_of_length_eq_zero h0
    subst this
    exact ⟨none, 0, rfl, ⟨by simp, by omega, fun h => by simp at h, hok, fun _ => rfl⟩⟩
  · refine ⟨_, cap, rfl, ⟨hc1, by unfold maxLen at hc2; omega, fun _ => ⟨g, 0, rfl, fun i c hc j u hu => ?_⟩, hok, fun h => by cases h⟩⟩
    have h5 := flat5_put cs i j c u hc hu
    rw [← htk, List.getElem?_take] at h5
    split at h5
    · rw [Nat.zero_add, cell_of hg]
      simpa using h5
    · cases h5
/-- The cells of some of the commands that came in. -/
theorem cmds_news {W : World} {b o cap : Nat} {cs : List Cmd} (h : CmdsIn W (some ⟨b, o, none⟩) cs cap) (i m : Nat) (hi : i + m ≤ cs.length) : ∀ (j : Nat) (u : Value), (flat5 ((cs.drop i).take m))[j]? = some u → W.cell? ((⟨b, o + i * 5, none⟩ : Addr).add j) = some u := fun j u hu => by
  obtain ⟨c, hc, hcu⟩ := flat5_get _ _ _ hu
  rw [List.getElem?_take] at hc
  split at hc
  · rw [List.getElem?_drop] at hc
    obtain ⟨b', o', e, hcell⟩ := h.cells (by have := (List.getElem?_eq_some_iff.1 hc).1; omega)
    simp only [Option.some.injEq, Addr.mk.injEq] at e
    obtain ⟨rfl, rfl, _⟩ := e
    have := hcell _ c hc _ u hcu
    rw [Addr.add_mid, ← this]
    congr 2
    omega
  · cases hc
/-- A delta with such commands, in memory of its own. -/
def IsDel (o n : Int) (x y : List Int) (cs : List Cmd) : Value → World → Prop := fun v w => ∃ (D : Array Value) (g : Nat) (es : List Cmd), v = .agg D ∧ DeltaOf D o n x y (.slice (some ⟨g, 0, none⟩) es.length es.length) ∧ CmdsIn w (some ⟨g, 0, none⟩) es es.length ∧ cores es = cores cs
theorem stable_del (o n : Int) (x y : List Int) (cs : List Cmd) : Stable (fun W W' => Below W.heap.size W W') (IsDel o n x y cs) := fun v w w' ⟨D, g, es, h1, h2, h3, h4⟩ hE => ⟨D, g, es, h1, h2, h3.below hE, h4⟩
theorem size_cmd (w : World) : (sizeOf (Try.prog.elem 22)).run Try.prog w = .ok 5 w := by kernel_rfl
/-- The first n of them; those behind. -/
theorem cut5_h {b o L cap : Nat} (n : Nat) (hn : n ≤ L) (hL : 0 < L) (hc : L ≤ cap) : ∀ W, (Instr.slice 22 (.slice (some ⟨b, o, none⟩) L cap) none (some (.int .i64 (n : Int))) none).run Try.prog W = .ok (.slice (some ⟨b, o, none⟩) n cap) W := fun W => by
  rw [run_slice_h (P := Try.prog) W 22 _ L cap (by kernel_rfl) .i64 (n : Int) (by omega) (by omega), size_cmd]
  simp only [Result.andThen_ok, sliced, Int.toNat_natCast, Nat.sub_zero]
  rw [if_neg (by omega)]
  simp [Addr.add_mid]
theorem cut5_l {b o L cap : Nat} (n : Nat) (hn : n ≤ L) (hc : L ≤ cap) : ∃ A : Addr, (∀ W, (Instr.slice 22 (.slice (some ⟨b, o, none⟩) L cap) (some (.int .i64 (n : Int))) none none).run Try.prog W = .ok (.slice (some A) (L - n) (cap - n)) W) ∧ (n < L → A = ⟨b, o + n * 5, none⟩) := by
  refine ⟨if cap = n then ⟨b, o, none⟩ else (⟨b, o, none⟩ : Addr).add (n * 5), fun W => ?_, fun h => ?_⟩
  · rw [run_slice_l (P := Try.prog) W 22 _ L cap (by kernel_rfl) .i64 (n : Int) (by omega) (by omega), size_cmd]
    simp only [Result.andThen_ok, sliced, Int.toNat_natCast]
    split <;> rfl
  · rw [if_neg (by omega), Addr.add_mid]
end Go.Proofs.Ytgmjppjgbalapaa
