import Derived.Test.YtdedfjkenbaebaaDoorE08a17
import Derived.Test.YtdedfjkenbaebaaDoorE08a16
import Derived.Test.YtdedfjkenbaebaaDoorE08a15
import Derived.Laws.StructEq
import Derived.Lib.SlBytesConst
import Derived.Great.BuildSlice
import Derived.Test.YtdedfjkenbaebaaDoorE08a13
import Derived.Test.YtdedfjkenbaebaaDoorE08a18
import Derived.Deep.AppendSrc
import Derived.Deep.Upon
import Derived.Test.YtdedfjkenbaebaaDoorE08a12
import Derived.BigQuiet
import Derived.LoopTactic
/- The fault of a delta depends on what its commands hold, not on where: mathematics; the example of the chapter. The example of the chapter. -/
namespace Go.Proofs.YtdedfjkenbaebaaDoor
open Go.Proofs.YtdedfjkenbaebaaDoor.Plain01
set_option linter.unusedVariables false

def Cmd.strip (c : Cmd) : Cmd := ⟨c.k, c.t, c.f, c.n, c.l, none, 0⟩
theorem strip_cores {cs ds : List Cmd} (h : cores cs = cores ds) : cs.map Cmd.strip = ds.map Cmd.strip := by
  have e : ∀ l : List Cmd, l.map Cmd.strip = (cores l).map fun p => (⟨p.1, p.2.1, p.2.2.1, p.2.2.2.1, p.2.2.2.2, none, 0⟩ : Cmd) := fun l => by
    unfold cores
    rw [List.map_map]
    rfl
  rw [e, e, h]
theorem refspec_strip {o n : Int} {cs : List Cmd} {e a : Int} : RefSpec o n (cs.map Cmd.strip) e a ↔ RefSpec o n cs e a := by
  have ht : (cs.map Cmd.strip).map Cmd.tgt = cs.map Cmd.tgt := by rw [List.map_map]; rfl
  have hs : ∀ c : Cmd, single o n c.strip = single o n c := fun _ => rfl
  have hall : AllOK o n (cs.map Cmd.strip) ↔ AllOK o n cs := by
    unfold AllOK
    constructor
    · intro h c hc
      rw [← hs]
      exact h _ (List.mem_map_of_mem hc)
    · intro h c hc
      obtain ⟨c', hc', rfl⟩ := List.mem_map.1 hc
      rw [hs]
      exact h c' hc'
  have hov : ∀ i, Over (cs.map Cmd.strip) i ↔ Over cs i := fun i => by
    unfold Over
    constructor
    · rintro ⟨j, a, b, hj, ha, hb, hn⟩
      rw [List.getElem?_map] at ha hb
      obtain ⟨a', ha', rfl⟩ := Option.map_eq_some_iff.1 ha
      obtain ⟨b', hb', rfl⟩ := Option.map_eq_some_iff.1 hb
      exact ⟨j, a', b', hj, ha', hb', hn⟩
    · rintro ⟨j, a, b, hj, ha, hb, hn⟩
      exact ⟨j, a.strip, b.strip, hj, by rw [List.getElem?_map, ha]; rfl, by rw [List.getElem?_map, hb]; rfl, hn⟩
  unfold RefSpec
  rw [ht, hall]
  simp only [hov]
  have h2 : (∃ (i : Nat) (c : Cmd), (cs.map Cmd.strip)[i]? = some c ∧ single o n c ≠ 0 ∧ (∀ (j : Nat) (c' : Cmd), j < i → (cs.map Cmd.strip)[j]? = some c' → single o n c' = 0) ∧ e = single o n c ∧ a = i) ↔ (∃ (i : Nat) (c : Cmd), cs[i]? = some c ∧ single o n c ≠ 0 ∧ (∀ (j : Nat) (c' : Cmd), j < i → cs[j]? = some c' → single o n c' = 0) ∧ e = single o n c ∧ a = i) := by
    constructor
    · rintro ⟨i, c, hc, h1, h2, h3, h4⟩
      rw [List.getElem?_map] at hc
      obtain ⟨c', hc', rfl⟩ := Option.map_eq_some_iff.1 hc
      exact ⟨i, c', hc', h1, fun j d hj hd => by
        have := h2 j d.strip hj (by rw [List.getElem?_map, hd]; rfl)
        exact this, h3, h4⟩
    · rintro ⟨i, c, hc, h1, h2, h3, h4⟩
      exact ⟨i, c.strip, by rw [List.getElem?_map, hc]; rfl, h1, fun j d hj hd => by
        rw [List.getElem?_map] at hd
        obtain ⟨d', hd', rfl⟩ := Option.map_eq_some_iff.1 hd
        exact h2 j d' hj hd', h3, h4⟩
  rw [h2]
theorem RefSpec.of_cores {o n : Int} {cs ds : List Cmd} {e a : Int} (h : RefSpec o n cs e a) (hc : cores ds = cores cs) : RefSpec o n ds e a := by
  rw [← refspec_strip, strip_cores hc, refspec_strip]
  exact h
theorem faultOf_cores {o n : Int} {cs ds : List Cmd} (hc : cores ds = cores cs) : faultOf o n ds = faultOf o n cs := faultOf_eq ((faultOf_spec o n cs).of_cores hc)
theorem valid_cores {o n : Int} {cs ds : List Cmd} (hc : cores ds = cores cs) (h : ValidD o n cs) : ValidD o n ds := by
  rw [← faultOf_zero, faultOf_cores hc, faultOf_zero]
  exact h

/-- The example of the chapter. -/
def exA : Cmd := ⟨1, 2, 0, 4, [], none, 0⟩
def exB (g : Nat) : Cmd := ⟨2, 0, 0, 0, [97, 98], some ⟨g, 0, none⟩, 2⟩
theorem ex_lens : ¬ LensBad 4 6 := by unfold LensBad; omega
theorem ex_sA : single 4 6 exA = 0 := by decide
theorem ex_sB (g : Nat) : single 4 6 (exB g) = 0 := by
  show single 4 6 (exB 0) = 0
  decide
theorem ex_valid (g : Nat) : ValidD 4 6 [exA, exB g] := ⟨ex_lens, fun c hc => by
    simp only [List.mem_cons, List.not_mem_nil, or_false] at hc
    rcases hc with rfl | rfl
    · exact ex_sA
    · exact ex_sB g, by
    show Tiles 0 6 [(2, 4), (0, 2)]
    refine ⟨fun p hp => ?_, ?_, fun x h0 h1 => ?_⟩
    · simp only [List.mem_cons, List.not_mem_nil, or_false] at hp
      rcases hp with rfl | rfl <;> simp
    · simp [Off]
    · by_cases h : x < 2
      · exact ⟨(0, 2), by simp, by simp; omega⟩
      · exact ⟨(2, 4), by simp, by simp; omega⟩⟩
theorem ex_fault (g : Nat) : faultOf 4 6 [exA, exB g] = (0, 0) := faultOf_eq (ex_valid g).spec
theorem ex_gap : faultOf 4 6 [exA] = (3, 0) := by
  refine faultOf_eq (Or.inr (Or.inr (Or.inr (Or.inl ⟨ex_lens, fun c hc => ?_, fun i ho => ?_, 0, ?_, rfl, rfl⟩))))
  · simp only [List.mem_cons, List.not_mem_nil, or_false] at hc
    subst hc; exact ex_sA
  · obtain ⟨j, a, b, hj, ha, _⟩ := ho
    have := (List.getElem?_eq_some_iff.1 ha).1
    simp at this; omega
  · show Gap 6 [(2, 4)] 0
    refine ⟨by omega, by omega, fun ⟨p, hp, h1, h2⟩ => ?_, fun x h0 h1 => by omega⟩
    simp only [List.mem_cons, List.not_mem_nil, or_false] at hp
    subst hp
    simp at h1
theorem ex_find (g : Nat) : findOf [exA, exB g] 1 = 1 := by
  refine findOf_eq ⟨fun h => absurd h (by omega), fun _ => ⟨1, exB g, rfl, rfl, ?_, fun j c hj hc => ?_⟩⟩
  · unfold Cmd.has; show (0 : Int) ≤ 1 ∧ (1 : Int) < 0 + 2; omega
  · obtain rfl : j = 0 := by omega
    cases hc
    unfold Cmd.has
    show ¬ ((2 : Int) ≤ 1 ∧ _)
    omega
theorem ex_cover (g : Nat) : ∀ c ∈ [exA, exB g], okE c.tgt = true ∧ (c.k = 1 ∨ c.k = 2) := fun c hc => by
  simp only [List.mem_cons, List.not_mem_nil, or_false] at hc
  rcases hc with rfl | rfl
  · exact ⟨by decide, Or.inl rfl⟩
  · exact ⟨by show okE (exB 0).tgt = true; decide, Or.inr rfl⟩
end Go.Proofs.YtdedfjkenbaebaaDoor

namespace Go.Proofs.YtdedfjkenbaebaaDoor
open Go.RowKit Go.Shelf Go.Proofs.YtdedfjkenbaebaaDoor.Plain01
set_option linter.unusedVariables false
set_option linter.unusedSimpArgs false

/-- The blocks of the example. -/
abbrev exRow (g : Nat) : Obj := .cells #[.int .i64 1, .int .i64 2, .int .i64 0, .int .i64 4, .slice none 0 0, .int .i64 2, .int .i64 0, .int .i64 0, .int .i64 0, .slice (some ⟨g, 0, none⟩) 2 2] 46 (0, 0)
abbrev exAB : Obj := .cells #[.int .u8 97, .int .u8 98] 5 (2, 3)
abbrev exW (w : World) (D : Array Value) : World := ((((w.alloc (cmdO 1 2 0 4 (.slice none 0 0))).alloc exAB).alloc (cmdO 2 0 0 0 (.slice (some ⟨w.heap.size + 1, 0, none⟩) 2 2))).alloc (exRow (w.heap.size + 1))).alloc (deltaO D)
theorem ex_world (w : World) (D : Array Value) : ∃ S : HeldW w [(w.heap.size + 1 + 1 + 1 + 1, deltaO D), (w.heap.size + 1 + 1 + 1, exRow (w.heap.size + 1)), (w.heap.size + 1 + 1, cmdO 2 0 0 0 (.slice (some ⟨w.heap.size + 1, 0, none⟩) 2 2)), (w.heap.size + 1, exAB), (w.heap.size, cmdO 1 2 0 4 (.slice none 0 0))], exW w D = S.w := by
  obtain ⟨S, hS⟩ := start3 w (cmdO 1 2 0 4 (.slice none 0 0)) exAB (cmdO 2 0 0 0 (.slice (some ⟨w.heap.size + 1, 0, none⟩) 2 2))
  have e3 : S.w.heap.size = w.heap.size + 1 + 1 + 1 := by rw [← hS]; simp
  obtain ⟨B, S1, hB, _, _, hS1⟩ := S.more1 (exRow (w.heap.size + 1))
  obtain rfl : B = w.heap.size + 1 + 1 + 1 := hB.trans e3
  have e4 : S1.w.heap.size = w.heap.size + 1 + 1 + 1 + 1 := by rw [← hS1, World.size_alloc, e3]
  obtain ⟨B, S2, hB2, _, _, hS2⟩ := S1.more1 (deltaO D)
  obtain rfl : B = w.heap.size + 1 + 1 + 1 + 1 := hB2.trans e4
  exact ⟨S2, by rw [← hS2, ← hS1, ← hS]⟩
theorem ex_set (w : World) (D : Array Value) : (exW w zeroDel).setRow (w.heap.size + 1 + 1 + 1 + 1) D = exW w D := by
  have e : w.heap.size + 1 + 1 + 1 + 1 = ((((w.alloc (cmdO 1 2 0 4 (.slice none 0 0))).alloc exAB).alloc (cmdO 2 0 0 0 (.slice (some ⟨w.heap.size + 1, 0, none⟩) 2 2))).alloc (exRow (w.heap.size + 1))).heap.size := by simp
  rw [e]
  exact World.setRow_alloc_new _ _ _ _
theorem row_one {W : World} {B : Nat} (hr : W.heap[B]? = some (rowC #[.int .i64 1, .int .i64 2, .int .i64 0, .int .i64 4, .slice none 0 0])) : CmdsIn W (some ⟨B, 0, none⟩) [exA] 1 := by
  refine ⟨by simp, by omega, fun _ => ⟨_, 0, rfl, fun i c hc j u hu => ?_⟩, fun c hc => ?_, fun h => by cases h⟩
  · rw [Nat.zero_add, cell_of hr]
    have hi : i < 1 := by simpa using (List.getElem?_eq_some_iff.1 hc).1
    have hj : j < 5 := by simpa [Cmd.cells] using (List.getElem?_eq_some_iff.1 hu).1
    obtain rfl : i = 0 := by omega
    cases hc
    match j, hj with
    | 0, _ => cases hu; rfl
    | 1, _ => cases hu; rfl
    | 2, _ => cases hu; rfl
    | 3, _ => cases hu; rfl
    | 4, _ => cases hu; rfl
  · simp only [List.mem_cons, List.not_mem_nil, or_false] at hc
    subst hc
    exact ⟨by unfold I64 exA; simp, by unfold I64 exA; simp, by unfold I64 exA; simp, by unfold I64 exA; simp, bytes_nil W, okB_nil⟩
theorem ex_cmds {w W : World} (hr : W.heap[w.heap.size + 1 + 1 + 1]? = some (exRow (w.heap.size + 1))) (hb : W.heap[w.heap.size + 1]? = some exAB) : CmdsIn W (some ⟨w.heap.size + 1 + 1 + 1, 0, none⟩) [exA, exB (w.heap.size + 1)] 2 := by
  refine ⟨by simp, by omega, fun _ => ⟨_, 0, rfl, fun i c hc j u hu => ?_⟩, fun c hc => ?_, fun h => by cases h⟩
  · rw [Nat.zero_add, cell_of hr]
    have hi : i < 2 := by simpa using (List.getElem?_eq_some_iff.1 hc).1
    have hj : j < 5 := by simpa [Cmd.cells] using (List.getElem?_eq_some_iff.1 hu).1
    match i, hi with
    | 0, _ =>
      cases hc
      match j, hj with
      | 0, _ => cases hu; rfl
      | 1, _ => cases hu; rfl
      | 2, _ => cases hu; rfl
      | 3, _ => cases hu; rfl
      | 4, _ => cases hu; rfl
    | 1, _ =>
      cases hc
      match j, hj with
      | 0, _ => cases hu; rfl
      | 1, _ => cases hu; rfl
      | 2, _ => cases hu; rfl
      | 3, _ => cases hu; rfl
      | 4, _ => cases hu; rfl
  · simp only [List.mem_cons, List.not_mem_nil, or_false] at hc
    rcases hc with rfl | rfl
    · exact ⟨by unfold I64 exA; simp, by unfold I64 exA; simp, by unfold I64 exA; simp, by unfold I64 exA; simp, bytes_nil W, okB_nil⟩
    · refine ⟨by unfold I64 exB; simp, by unfold I64 exB; simp, by unfold I64 exB; simp, by unfold I64 exB; simp, ⟨by simp [exB], by simp [exB], fun _ => ⟨_, 0, rfl, fun i hi => ?_⟩, fun h => by cases h⟩, fun x hx => ?_⟩
      · rw [Nat.zero_add, cell_of_row _ _ _ _ _ _ hb]
        have : i = 0 ∨ i = 1 := by simp [exB] at hi; omega
        rcases this with rfl | rfl <;> rfl
      · simp [exB] at hx
        rcases hx with rfl | rfl <;> omega

end Go.Proofs.YtdedfjkenbaebaaDoor

/- Rows of commands that a call makes and appends to. -/
namespace Go.Proofs.YtdedfjkenbaebaaDoor
open Go.RowKit Go.Shelf Go.Proofs.YtdedfjkenbaebaaDoor.Plain01
set_option linter.unusedVariables false
set_option linter.unusedSimpArgs false

/-- The cells of commands, one behind the other. -/
def flat5 (cs : List Cmd) : List Value := cs.flatMap Cmd.cells
theorem flat5_length (cs : List Cmd) : (flat5 cs).length = cs.length * 5 := by
  unfold flat5
  induction cs with
  | nil => rfl
  | cons c cs ih => rw [List.flatMap_cons, List.length_append, ih]; simp [Cmd.cells]; omega
theorem flat5_append (cs ds : List Cmd) : flat5 (cs ++ ds) = flat5 cs ++ flat5 ds := by unfold flat5; rw [List.flatMap_append]
theorem flat5_get : ∀ (cs : List Cmd) (q : Nat) (u : Value), (flat5 cs)[q]? = some u → ∃ c, cs[q / 5]? = some c ∧ c.cells[q % 5]? = some u := by
  intro cs
  induction cs with
  | nil => intro q u h; simp [flat5] at h
  | cons c cs ih =>
    intro q u h
    have hl : c.cells.length = 5 := rfl
    have e : flat5 (c :: cs) = c.cells ++ flat5 cs := rfl
    rw [e] at h
    by_cases hq : q < 5
    · rw [List.getElem?_append_left (by omega)] at h
      exact ⟨c, by rw [show q / 5 = 0 by omega]; rfl, by rwa [show q % 5 = q by omega]⟩
    · rw [List.getElem?_append_right (by omega), hl] at h
      obtain ⟨d, h1, h2⟩ := ih _ _ h
      refine ⟨d, ?_, by rwa [show (q - 5) % 5 = q % 5 by omega] at h2⟩
      rw [show q / 5 = (q - 5) / 5 + 1 by omega]
      exact h1
theorem flat5_put : ∀ (cs : List Cmd) (i j : Nat) (c : Cmd) (u : Value), cs[i]? = some c → c.cells[j]? = some u → (flat5 cs)[i * 5 + j]? = some u := by
  intro cs
  induction cs with
  | nil => intro i j c u h; simp at h
  | cons d cs ih =>
    intro i j c u hc hu
    have hj : j < 5 := by simpa [Cmd.cells] using (List.getElem?_eq_some_iff.1 hu).1
    have hl : d.cells.length = 5 := rfl
    have e : flat5 (d :: cs) = d.cells ++ flat5 cs := rfl
    rw [e]
    cases i with
    | zero =>
      cases hc
      rw [List.getElem?_append_left (by omega), Nat.zero_mul, Nat.zero_add]
      exact hu
    | succ i =>
      rw [List.getElem?_append_right (by omega), hl, show (i + 1) * 5 + j - 5 = i * 5 + j by omega]
      exact ih i j c u hc hu
theorem flat5_one (cs : List Cmd) : ∀ u ∈ flat5 cs, u.oneCell' = true := fun u hu => by
  unfold flat5 at hu
  obtain ⟨c, _, hc⟩ := List.mem_flatMap.1 hu
  simp only [Cmd.cells, List.mem_cons, List.not_mem_nil, or_false] at hc
  rcases hc with rfl | rfl | rfl | rfl | rfl <;> rfl

theorem elem5 : ∃ E : ElemS Tryd.prog 24 46 5, E.bytes = 56 := by
  have h : (Tryd.prog.info? 46).map (fun i => (i.zero, i.size, i.bytes)) = some (some (.agg zeroCmd), 5, 56) := by kernel_rfl
  obtain ⟨i, hi, he⟩ := Option.map_eq_some_iff.1 h
  simp only [Prod.mk.injEq] at he
  exact ⟨⟨i, .agg zeroCmd, 56, Tryd.underlying24, hi, he.1, he.2.1, he.2.2, rfl, by omega⟩, rfl⟩

/-- Commands in a row of the call's own. -/
def IsRow (base n : Nat) (xs : List Value) : Value → World → Prop := fun v w => w.ownsRow base 46 5 v n xs
theorem stable_row (base n : Nat) (xs : List Value) : Stable (fun W W' => Below W.heap.size W W') (IsRow base n xs) := fun v w w' h hE => own_later h hE
/-- A new row without room. -/
def IsE5 (base : Nat) : Value → World → Prop := fun v w => ∃ g, v = .slice (some ⟨g, 0, none⟩) 0 0 ∧ w.ownsRow base 46 5 v 0 []
theorem stable_E5 (base : Nat) : Stable (fun W W' => Below W.heap.size W W') (IsE5 base) := fun v w w' ⟨g, h1, h2⟩ hE => ⟨g, h1, own_later h2 hE⟩
theorem isE5_new {W : World} {base : Nat} (hb : base ≤ W.heap.size) : IsE5 base (.slice (some ⟨W.heap.size, 0, none⟩) 0 0) (W.alloc (.cells #[] 46)) :=
  ⟨W.heap.size, rfl, rfl, .inr ⟨W.heap.size, 0, #[], rfl, hb, heap_new W _ rfl, Nat.le_refl _, by unfold maxLen; omega, rfl, rfl⟩⟩
/-- A new row of one command. -/
def IsOne5 (c : Cmd) : Value → World → Prop := fun v w => ∃ B, v = .slice (some ⟨B, 0, none⟩) 1 1 ∧ w.heap[B]? = some (.cells c.cells.toArray 46 (0, 0))
theorem stable_One5 (c : Cmd) : Stable (fun W W' => Below W.heap.size W W') (IsOne5 c) := fun v w w' ⟨B, h1, h2⟩ hE => ⟨B, h1, (hE.block _ (Array.getElem?_eq_some_iff.1 h2).1).trans h2⟩

/-- An append to it. -/
theorem run_append_fresh5 {W : World} {base : Nat} (hbase : base ≤ W.heap.size) {v : Value} (hv : IsE5 base v W) (ad : Addr) (m c : Nat) (news : List Value) (hl : news.length = m * 5) (hnews : ∀ j u, news[j]? = some u → W.cell? (ad.add j) = some u) (h1 : ∀ u ∈ news, u.oneCell' = true) (hm : m ≤ 1000000) (ty : TypeId) :
    ∃ v' W', (Builtin.append_ #[24, 24] ty #[v, .slice (some ad) m c]).run Tryd.prog W = .ok v' W' ∧ IsRow base m news v' W' ∧ Below W.heap.size W W' := by
  obtain ⟨E, hE⟩ := elem5
  obtain ⟨g, rfl, ho⟩ := hv
  have hsrc := _root_.Go.Src.ofSlice (P := Tryd.prog) W (size := E.i.size) (tx := 24) Tryd.underlying24 ad m c news (by rw [E.hsize, hl]) hnews h1
  by_cases h0 : m = 0
  · subst h0
    obtain rfl := List.eq_nil_of_length_eq_zero (by omega)
    exact ⟨_, _, run_append_nothing (P := Tryd.prog) W 24 24 ty 46 E.i E.ht E.hi _ 0 0 (Nat.le_refl _) _ hsrc, ho, Below.refl _ _⟩
  · have hold : (Builtin.firstCells E.i.size 0 (.slice (some ⟨g, 0, none⟩) 0 0)).run Tryd.prog W.drew = .ok ([] : List Value).toArray W.drew :=
      run_firstCells_some W.drew E.i.size 0 ⟨g, 0, none⟩ 0 0 [] (by simp) (fun j v hj => by simp at hj)
    have hrun := run_append_grow_src (P := Tryd.prog) W 24 24 ty 46 E.i E.z E.ht E.hi E.hz (some ⟨g, 0, none⟩) 0 0 [] hold _ m _ hsrc (by omega) (by omega) (growslice_fits (by omega) (by rw [E.hby, hE]; omega))
    rw [Nat.zero_add] at hrun
    have hG := grownCap_ge W m 0 46
    have hG2 := grownCap_le_maxLen W m 0 46 (by unfold maxLen; omega)
    generalize grownCap W m 0 46 = G at hrun hG hG2
    refine ⟨_, _, hrun, ⟨hl, .inr ⟨W.heap.size, G, _, rfl, hbase, heap_alloc_new W.drew _, hG, hG2, ?_, ?_⟩⟩, (Below.refl _ W).drew.alloc (Nat.le_refl _) _⟩
    · simp only [List.nil_append, Array.size_append, List.size_toArray, size_zeroCells, E.hzs, hl]
      omega
    · simp only [List.nil_append, Array.toList_append]
      rw [← hl]
      exact List.take_left

/-- A row that is the call's own is a slice of commands. -/
theorem row_cmds {W : World} {base n : Nat} {v : Value} {cs : List Cmd} (h : W.ownsRow base 46 5 v n (flat5 cs)) (hn : n = cs.length) (hok : ∀ c ∈ cs, CmdOK W c) : ∃ (a : Option Addr) (cap : Nat), v = .slice a cs.length cap ∧ CmdsIn W a cs cap := by
  subst hn
  rcases h.2 with ⟨rfl, h0⟩ | ⟨g, cap, cur, rfl, hb, hg, hc1, hc2, hsz, htk⟩
  · have : cs = [] := List.eq_nil_of_length_eq_zero h0
    subst this
    exact ⟨none, 0, rfl, ⟨by simp, by omega, fun h => by simp at h, hok, fun _ => rfl⟩⟩
  · refine ⟨_, cap, rfl, ⟨hc1, by unfold maxLen at hc2; omega, fun _ => ⟨g, 0, rfl, fun i c hc j u hu => ?_⟩, hok, fun h => by cases h⟩⟩
    have h5 := flat5_put cs i j c u hc hu
    rw [← htk, List.getElem?_take] at h5
    split at h5
    · rw [Nat.zero_add, cell_of hg]
      simpa using h5
    · cases h5
/-- The cells of some of the commands that came in. -/
theorem cmds_news {W : World} {b o cap : Nat} {cs : List Cmd} (h : CmdsIn W (some ⟨b, o, none⟩) cs cap) (i m : Nat) (hi : i + m ≤ cs.length) : ∀ (j : Nat) (u : Value), (flat5 ((cs.drop i).take m))[j]? = some u → W.cell? ((⟨b, o + i * 5, none⟩ : Addr).add j) = some u := fun j u hu => by
  obtain ⟨c, hc, hcu⟩ := flat5_get _ _ _ hu
  rw [List.getElem?_take] at hc
  split at hc
  · rw [List.getElem?_drop] at hc
    obtain ⟨b', o', e, hcell⟩ := h.cells (by have := (List.getElem?_eq_some_iff.1 hc).1; omega)
    simp only [Option.some.injEq, Addr.mk.injEq] at e
    obtain ⟨rfl, rfl, _⟩ := e
    have := hcell _ c hc _ u hcu
    rw [Addr.add_mid, ← this]
    congr 2
    omega
  · cases hc
/-- A delta with such commands, in memory of its own. -/
def IsDel (o n : Int) (x y : List Int) (cs : List Cmd) : Value → World → Prop := fun v w => ∃ (D : Array Value) (g : Nat) (es : List Cmd), v = .agg D ∧ DeltaOf D o n x y (.slice (some ⟨g, 0, none⟩) es.length es.length) ∧ CmdsIn w (some ⟨g, 0, none⟩) es es.length ∧ cores es = cores cs
theorem stable_del (o n : Int) (x y : List Int) (cs : List Cmd) : Stable (fun W W' => Below W.heap.size W W') (IsDel o n x y cs) := fun v w w' ⟨D, g, es, h1, h2, h3, h4⟩ hE => ⟨D, g, es, h1, h2, h3.below hE, h4⟩
theorem size_cmd (w : World) : (sizeOf (Tryd.prog.elem 24)).run Tryd.prog w = .ok 5 w := by kernel_rfl
/-- The first n of them; those behind. -/
theorem cut5_h {b o L cap : Nat} (n : Nat) (hn : n ≤ L) (hL : 0 < L) (hc : L ≤ cap) : ∀ W, (Instr.slice 24 (.slice (some ⟨b, o, none⟩) L cap) none (some (.int .i64 (n : Int))) none).run Tryd.prog W = .ok (.slice (some ⟨b, o, none⟩) n cap) W := fun W => by
  rw [run_slice_h (P := Tryd.prog) W 24 _ L cap (by kernel_rfl) .i64 (n : Int) (by omega) (by omega), size_cmd]
  simp only [Result.andThen_ok, sliced, Int.toNat_natCast, Nat.sub_zero]
  rw [if_neg (by omega)]
  simp [Addr.add_mid]
theorem cut5_l {b o L cap : Nat} (n : Nat) (hn : n ≤ L) (hc : L ≤ cap) : ∃ A : Addr, (∀ W, (Instr.slice 24 (.slice (some ⟨b, o, none⟩) L cap) (some (.int .i64 (n : Int))) none none).run Tryd.prog W = .ok (.slice (some A) (L - n) (cap - n)) W) ∧ (n < L → A = ⟨b, o + n * 5, none⟩) := by
  refine ⟨if cap = n then ⟨b, o, none⟩ else (⟨b, o, none⟩ : Addr).add (n * 5), fun W => ?_, fun h => ?_⟩
  · rw [run_slice_l (P := Tryd.prog) W 24 _ L cap (by kernel_rfl) .i64 (n : Int) (by omega) (by omega), size_cmd]
    simp only [Result.andThen_ok, sliced, Int.toNat_natCast]
    split <;> rfl
  · rw [if_neg (by omega), Addr.add_mid]
end Go.Proofs.YtdedfjkenbaebaaDoor

/- Sort of the reference: an insertion, with three appends. -/
namespace Go.Proofs.YtdedfjkenbaebaaDoor
open Go.RowKit Go.Shelf Go.Proofs.YtdedfjkenbaebaaDoor.Plain01
set_option linter.unusedVariables false
set_option linter.unusedSimpArgs false

/-- Rows with those cells keep them. -/
def ExtR (base at_ : Nat) (X Y : List Value) (W W' : World) : Prop := ∀ v n xs, (n = 0 ∧ xs = [] ∨ n = at_ ∧ xs = X ∨ n = 1 ∧ xs = Y ∨ n = at_ + 1 ∧ xs = X ++ Y) → W.ownsRow base 46 5 v n xs → W'.ownsRow base 46 5 v n xs
theorem extR_below {base at_ : Nat} {X Y : List Value} {W W' : World} (h : Below W.heap.size W W') : ExtR base at_ X Y W W' := fun v n xs _ ho => own_later ho h

theorem append_ext {W0 W : World} (hC : Below W0.heap.size W0 W) {at_ : Nat} {X Y : List Value} {v : Value} (hv : W.ownsRow W0.heap.size 46 5 v at_ X) (ad : Addr) (c : Nat) (hY : Y.length = 1 * 5) (hnews : ∀ j u, Y[j]? = some u → W.cell? (ad.add j) = some u) (h1 : ∀ u ∈ Y, u.oneCell' = true) (hm : at_ ≤ 1000000) (ty : TypeId) :
    ∃ v' W', (Builtin.append_ #[24, 24] ty #[v, .slice (some ad) 1 c]).run Tryd.prog W = .ok v' W' ∧ W'.ownsRow W0.heap.size 46 5 v' (at_ + 1) (X ++ Y) ∧ Below W0.heap.size W0 W' ∧ ExtR W0.heap.size at_ X Y W W' := by
  obtain ⟨E, hE⟩ := elem5
  obtain ⟨v', W', hrun, ho, hg, _⟩ := run_append_own (P := Tryd.prog) W W0.heap.size 24 ty 46 E.i E.z 5 E.bytes E.ht E.hi E.hz E.hsize E.hby E.hzs E.hsz v at_ X hv ad 1 c Y hY hnews h1 (by unfold maxLen; omega) (by rw [hE]; omega) hC.size
  refine ⟨v', W', hrun, ho, hC.grown hg hC.size (fun k hk => (hv.lt k hk).1), ?_⟩
  rcases hv.2 with ⟨rfl, h0⟩ | ⟨g, cap, cur, rfl, hbg, hgc, hnc, hcm, hcs, htake⟩
  · exact extR_below ((Below.refl _ W).grown hg (Nat.le_refl _) (fun k hk => by cases hk))
  · by_cases hroom : at_ + 1 ≤ cap
    · have hl1 : Y.length = 1 * E.i.size := by rw [E.hsize, hY]
      have hr := run_append_room (P := Tryd.prog) W 24 ty 46 E.i E.ht E.hi g at_ cap cur hgc ad 1 c Y hl1 hnews h1 hroom (by rw [hl1, hcs, E.hsize, ← Nat.add_mul]; exact Nat.mul_le_mul_right _ hroom)
      rw [hr] at hrun
      injection hrun with h2 h3
      subst h3
      rw [E.hsize]
      intro u n xs hn hu
      refine ⟨hu.1, ?_⟩
      rcases hu.2 with h | ⟨g2, cap2, cur2, e1, e2, e3, e4, e5, e6, e7⟩
      · exact .inl h
      · right
        by_cases hgg : g2 = g
        · subst hgg
          obtain ⟨rfl, _⟩ : cur2 = cur ∧ True := by
            rw [hgc] at e3
            simp only [Option.some.injEq, Obj.cells.injEq] at e3
            exact ⟨e3.1.symm, trivial⟩
          have hxl : X.length = at_ * 5 := hv.1
          have hcl : cur2.toList.length = cap2 * 5 := by simpa using e6
          have hcc : cap2 = cap := by omega
          refine ⟨g2, cap2, _, e1, e2, setRow_heap _ _ _ _ _ _ e3, e4, e5, ?_, ?_⟩
          · simp only [List.size_toArray, List.length_append, List.length_take, List.length_drop, hY, hcl]
            omega
          · simp only [htake]
            rcases hn with ⟨rfl, rfl⟩ | ⟨rfl, rfl⟩ | ⟨rfl, rfl⟩ | ⟨rfl, rfl⟩
            · simp
            · rw [List.append_assoc, ← hxl, List.take_left]
            · by_cases ha : at_ = 0
              · subst ha
                have : X = [] := List.eq_nil_of_length_eq_zero (by omega)
                subst this
                rw [List.nil_append, ← hY, List.take_left]
              · rw [List.append_assoc, List.take_append_of_le_length (by omega), ← htake, List.take_take, Nat.min_eq_left (by omega)]
                exact e7
            · have : (at_ + 1) * 5 = (X ++ Y).length := by rw [List.length_append, hxl, hY]; omega
              rw [this, List.take_left]
        · exact ⟨g2, cap2, cur2, e1, e2, (setRow_other _ _ _ _ hgg).trans e3, e4, e5, e6, e7⟩
    · refine extR_below ?_
      have hl1 : Y.length = 1 * E.i.size := by rw [E.hsize, hY]
      have hr := run_append_grow (P := Tryd.prog) W 24 ty 46 E.i E.z E.ht E.hi E.hz ⟨g, 0, none⟩ at_ cap X (by rw [E.hsize]; exact hv.1) (hv.cells (g := g) rfl) ad 1 c Y hl1 hnews (by omega) (by omega) (growslice_fits (by omega) (by rw [E.hby, hE]; omega))
      rw [hr] at hrun
      injection hrun with h2 h3
      subst h3
      exact (Below.refl _ W).drew.alloc (Nat.le_refl _) _

/-- The same of a slice that may be nil. -/
theorem run_append_freshO {W : World} {base : Nat} (hbase : base ≤ W.heap.size) {v : Value} (hv : IsE5 base v W) (sp : Option Addr) (m c : Nat) (news : List Value) (hl : news.length = m * 5) (hnil : sp = none → m = 0) (hnews : ∀ ad, sp = some ad → ∀ j u, news[j]? = some u → W.cell? (ad.add j) = some u) (h1 : ∀ u ∈ news, u.oneCell' = true) (hm : m ≤ 1000000) (ty : TypeId) :
    ∃ v' W', (Builtin.append_ #[24, 24] ty #[v, .slice sp m c]).run Tryd.prog W = .ok v' W' ∧ IsRow base m news v' W' ∧ Below W.heap.size W W' := by
  cases sp with
  | some ad => exact run_append_fresh5 hbase hv ad m c news hl (hnews ad rfl) h1 hm ty
  | none =>
    obtain ⟨E, hE⟩ := elem5
    obtain ⟨g, rfl, ho⟩ := hv
    have hm0 := hnil rfl
    subst hm0
    obtain rfl := List.eq_nil_of_length_eq_zero (by omega)
    exact ⟨_, _, run_append_nothing (P := Tryd.prog) W 24 24 ty 46 E.i E.ht E.hi _ 0 0 (Nat.le_refl _) _ (_root_.Go.Src.ofNil (P := Tryd.prog) (w := W) (size := E.i.size) Tryd.underlying24 c), ho, Below.refl _ _⟩
theorem cutO_h {a : Option Addr} {L cap : Nat} (n : Nat) (hn : n ≤ L) (hc : L ≤ cap) (hnil : a = none → cap = 0) : ∃ A, (∀ W, (Instr.slice 24 (.slice a L cap) none (some (.int .i64 (n : Int))) none).run Tryd.prog W = .ok (.slice A n cap) W) ∧ (A = none → n = 0 ∧ cap = 0) ∧ ∀ b o, a = some ⟨b, o, none⟩ → A = some ⟨b, o, none⟩ := by
  refine ⟨if cap = 0 then a else a.map (·.add (0 * 5)), fun W => ?_, fun h => ?_, fun b o h => ?_⟩
  · rw [run_slice_h (P := Tryd.prog) W 24 a L cap (by kernel_rfl) .i64 (n : Int) (by omega) (by omega), size_cmd]
    simp only [Result.andThen_ok, sliced, Int.toNat_natCast, Nat.sub_zero]
  · by_cases h0 : cap = 0
    · omega
    · rw [if_neg h0] at h
      cases a with
      | none => have := hnil rfl; omega
      | some ad => cases h
  · subst h
    split <;> simp [Addr.add_mid]
theorem cutO_l {a : Option Addr} {L cap : Nat} (n : Nat) (hn : n ≤ L) (hc : L ≤ cap) (hnil : a = none → cap = 0) : ∃ A, (∀ W, (Instr.slice 24 (.slice a L cap) (some (.int .i64 (n : Int))) none none).run Tryd.prog W = .ok (.slice A (L - n) (cap - n)) W) ∧ (A = none → L - n = 0 ∧ cap - n = 0) ∧ ∀ b o, a = some ⟨b, o, none⟩ → n < L → A = some ⟨b, o + n * 5, none⟩ := by
  refine ⟨if cap = n then a else a.map (·.add (n * 5)), fun W => ?_, fun h => ?_, fun b o h hl => ?_⟩
  · rw [run_slice_l (P := Tryd.prog) W 24 a L cap (by kernel_rfl) .i64 (n : Int) (by omega) (by omega), size_cmd]
    simp only [Result.andThen_ok, sliced, Int.toNat_natCast]
  · by_cases h0 : cap = n
    · omega
    · rw [if_neg h0] at h
      cases a with
      | none => have := hnil rfl; omega
      | some ad => cases h
  · subst h
    rw [if_neg (by omega)]
    simp [Addr.add_mid]
theorem newsO_h {W : World} {a : Option Addr} {cap : Nat} {cs : List Cmd} (h : CmdsIn W a cs cap) {A : Option Addr} {n : Nat} (hn : n ≤ cs.length) (hA : ∀ b o, a = some ⟨b, o, none⟩ → A = some ⟨b, o, none⟩) : ∀ ad, A = some ad → ∀ (j : Nat) (u : Value), (flat5 (cs.take n))[j]? = some u → W.cell? (ad.add j) = some u := fun ad had j u hu => by
  by_cases h0 : 0 < cs.length
  · obtain ⟨b, o, ha, _⟩ := h.cells h0
    have := hA b o ha
    rw [had] at this
    cases this
    subst ha
    have := cmds_news h 0 n (by omega) j u (by simpa using hu)
    simpa using this
  · have : cs = [] := List.eq_nil_of_length_eq_zero (by omega)
    subst this
    simp [flat5] at hu
theorem newsO_l {W : World} {a : Option Addr} {cap : Nat} {cs : List Cmd} (h : CmdsIn W a cs cap) {A : Option Addr} {n : Nat} (hA : ∀ b o, a = some ⟨b, o, none⟩ → n < cs.length → A = some ⟨b, o + n * 5, none⟩) : ∀ ad, A = some ad → ∀ (j : Nat) (u : Value), (flat5 (cs.drop n))[j]? = some u → W.cell? (ad.add j) = some u := fun ad had j u hu => by
  by_cases h0 : n < cs.length
  · obtain ⟨b, o, ha, _⟩ := h.cells (by omega)
    have := hA b o ha h0
    rw [had] at this
    cases this
    subst ha
    refine cmds_news h n (cs.length - n) (by omega) j u ?_
    rw [List.take_of_length_le (by rw [List.length_drop]; omega)]
    exact hu
  · rw [List.drop_of_length_le (by omega)] at hu
    simp [flat5] at hu
/-- A literal of one command, as a row. -/
def IsLit (base : Nat) (c : Cmd) : Value → World → Prop := fun v w => ∃ B, v = .slice (some ⟨B, 0, none⟩) 1 1 ∧ w.ownsRow base 46 5 v 1 c.cells
theorem isLit_new {W : World} {base : Nat} (hb : base ≤ W.heap.size) (c : Cmd) : IsLit base c (.slice (some ⟨W.heap.size, 0, none⟩) 1 1) (W.alloc (.cells c.cells.toArray 46)) :=
  ⟨W.heap.size, rfl, rfl, .inr ⟨W.heap.size, 1, _, rfl, hb, heap_new W _ rfl, Nat.le_refl _, by unfold maxLen; omega, rfl, rfl⟩⟩

theorem stable_E5x (base j : Nat) (X Y : List Value) : Stable (ExtR base j X Y) (IsE5 base) := fun v w w' ⟨g, h1, h2⟩ hE => ⟨g, h1, hE _ 0 [] (.inl ⟨rfl, rfl⟩) h2⟩
theorem stable_rowx (base j : Nat) (X Y : List Value) : Stable (ExtR base j X Y) (IsRow base j X) := fun v w w' h hE => hE _ _ _ (.inr (.inl ⟨rfl, rfl⟩)) h
theorem stable_rowy (base j : Nat) (X Y : List Value) : Stable (ExtR base j X Y) (IsRow base (j + 1) (X ++ Y)) := fun v w w' h hE => hE _ _ _ (.inr (.inr (.inr ⟨rfl, rfl⟩))) h
theorem stable_lit (base j : Nat) (X : List Value) (c : Cmd) : Stable (ExtR base j X c.cells) (IsLit base c) := fun v w w' ⟨B, h1, h2⟩ hE => ⟨B, h1, hE _ _ _ (.inr (.inr (.inl ⟨rfl, rfl⟩))) h2⟩

def SortPost (cs : List Cmd) (w : World) (e : Ending) (w' : World) : Prop :=
  ∃ (a : Option Addr) (ls : List Cmd) (cap : Nat), e = .returned (.slice a ls.length cap) ∧ CmdsIn w' a ls cap ∧ ls.Perm cs ∧ Asc ls ∧ Below w.heap.size w w'

theorem perm_take_succ {cs out : List Cmd} {k : Nat} {c : Cmd} {j : Nat} (hc : cs[k]? = some c) (hp : out.Perm (cs.take k)) (hi : (out.take j ++ c :: out.drop j).Perm (c :: out)) : (out.take j ++ c :: out.drop j).Perm (cs.take (k + 1)) := by
  rw [List.take_add_one, hc]
  exact hi.trans ((hp.cons c).trans (List.perm_append_singleton c _).symm)

end Go.Proofs.YtdedfjkenbaebaaDoor

/- delta.Sort: the commands in the order of their targets. -/
namespace Go.Proofs.YtdedfjkenbaebaaDoor
open Go.RowKit Go.Shelf Go.Proofs.YtdedfjkenbaebaaDoor.Plain01
set_option linter.unusedVariables false
set_option linter.unusedSimpArgs false

def cmd0 : Cmd := ⟨0, 0, 0, 0, [], none, 0⟩
/-- The commands as an order of indices says. -/
def lsOf (cs : List Cmd) (idx : Array Int) : List Cmd := idx.toList.map fun z => (cs[z.toNat]?).getD cmd0
theorem IsOrder.at {cs : List Cmd} {idx : Array Int} (h : IsOrder cs idx) {k : Nat} (hk : k < cs.length) : ∃ (m : Nat) (c : Cmd), idx[k]? = some (m : Int) ∧ m < cs.length ∧ cs[m]? = some c ∧ (lsOf cs idx)[k]? = some c := by
  have hks : k < idx.size := by rw [h.size]; exact hk
  have hm : idx[k] ∈ (List.range cs.length).map (fun i : Nat => (i : Int)) := h.perm.mem_iff.1 (by rw [Array.mem_toList_iff]; exact Array.getElem_mem hks)
  obtain ⟨m, hm1, hm2⟩ := List.mem_map.1 hm
  rw [List.mem_range] at hm1
  refine ⟨m, cs[m], by rw [Array.getElem?_eq_getElem hks, hm2], hm1, List.getElem?_eq_getElem hm1, ?_⟩
  unfold lsOf
  rw [List.getElem?_map, Array.getElem?_toList, Array.getElem?_eq_getElem hks, ← hm2]
  simp [List.getElem?_eq_getElem hm1]
theorem IsOrder.length {cs : List Cmd} {idx : Array Int} (h : IsOrder cs idx) : (lsOf cs idx).length = cs.length := by unfold lsOf; rw [List.length_map, Array.length_toList, h.size]
theorem IsOrder.list {cs : List Cmd} {idx : Array Int} (h : IsOrder cs idx) : (lsOf cs idx).Perm cs := by
  have h1 := h.perm.map (fun z : Int => (cs[z.toNat]?).getD cmd0)
  have h2 : ((List.range cs.length).map (fun i : Nat => (i : Int))).map (fun z : Int => (cs[z.toNat]?).getD cmd0) = cs := by
    apply List.ext_getElem
    · simp
    · intro i h3 h4
      simp [List.getElem?_eq_getElem h4]
  rw [h2] at h1
  exact h1
theorem IsOrder.asc2 {cs : List Cmd} {idx : Array Int} (h : IsOrder cs idx) : Asc (lsOf cs idx) := by
  unfold Asc
  rw [List.pairwise_iff_getElem]
  intro i j hi hj hij
  rw [h.length] at hi hj
  obtain ⟨m, c, a1, a2, a3, a4⟩ := h.at hi
  obtain ⟨m', c', b1, b2, b3, b4⟩ := h.at hj
  have e1 : (lsOf cs idx)[i]'(by rw [h.length]; exact hi) = c := by
    rw [List.getElem?_eq_getElem (by rw [h.length]; exact hi)] at a4
    exact Option.some.inj a4
  have e2 : (lsOf cs idx)[j]'(by rw [h.length]; exact hj) = c' := by
    rw [List.getElem?_eq_getElem (by rw [h.length]; exact hj)] at b4
    exact Option.some.inj b4
  rw [e1, e2]
  have q := h.asc i j (Nat.zero_le _) hij hj
  rw [show idx[i]! = (m : Int) by rw [getElem!_def, a1], show idx[j]! = (m' : Int) by rw [getElem!_def, b1]] at q
  unfold keyT at q
  simpa [a3, b3] using q

theorem wpList_append_cmd {W0 : World} (s : HeldW W0 []) {v : Value} {n : Nat} {xs : List Value} (hv : s.w.ownsRow W0.heap.size 46 5 v n xs) (c : Cmd) {ops : Array Oper} {rest : List Oper} {o : Oper} {a : Act} {Q : Exit → Act → World → Prop} (sO xO : Operand)
    (hgd : o.guard = none) (ho : o.op = .call { callee := .builtin .append, args := #[sO, xO], argTypes := #[24, 24] }) (hs : a.eval sO = v) (hx : a.eval xO = .slice (some ⟨s.w.heap.size, 0, none⟩) 1 1) (hn : n ≤ 1000000)
    (H : ∀ v' (s' : HeldW W0 []), s'.w.ownsRow W0.heap.size 46 5 v' (n + 1) (xs ++ c.cells) → wpList Tryd.prog ops Q rest (a.put o.dst v') s'.w) : wpList Tryd.prog ops Q (o :: rest) a (s.w.alloc (.cells #[.int .i64 c.k, .int .i64 c.t, .int .i64 c.f, .int .i64 c.n, .slice c.a c.l.length c.cap] 46)) := by
  have hb : (s.w.alloc (.cells #[.int .i64 c.k, .int .i64 c.t, .int .i64 c.f, .int .i64 c.n, .slice c.a c.l.length c.cap] 46)).heap[s.w.heap.size]? = some (.cells #[.int .i64 c.k, .int .i64 c.t, .int .i64 c.f, .int .i64 c.n, .slice c.a c.l.length c.cap] 46 (0, 0)) := heap_new _ _ rfl
  obtain ⟨v', w', hrun, hown, hbl, _⟩ := append_ext (W0 := W0) (W := s.w.alloc (.cells #[.int .i64 c.k, .int .i64 c.t, .int .i64 c.f, .int .i64 c.n, .slice c.a c.l.length c.cap] 46)) (Y := c.cells) (s.below.alloc s.below.size _) (own_later hv ((Below.refl _ _).alloc (Nat.le_refl _) _)) ⟨s.w.heap.size, 0, none⟩ 1 rfl (fun j u hu => by
    rw [Addr.add_mid, Nat.zero_add, cell_of hb]
    simpa [Cmd.cells] using hu) (flat5_one [c]) hn o.type
  refine wpList_plain hgd fun K hK => ?_
  unfold Oper.wp
  simp [execOp, ho, resolve, invoke, builtin, hs, hx, hrun, Result.andThen]
  exact hK _ _ (H v' ⟨w', hbl, by simp⟩ hown)

def DSortPost (o n : Int) (x y : List Int) (cs : List Cmd) (w : World) (e : Ending) (w' : World) : Prop :=
  ∃ (D' : Array Value) (g : Nat) (ds ls : List Cmd), e = .returned (.agg D') ∧ DeltaOf D' o n x y (.slice (some ⟨g, 0, none⟩) ds.length ds.length) ∧ CmdsIn w' (some ⟨g, 0, none⟩) ds ds.length ∧ cores ds = cores ls ∧ ls.Perm cs ∧ Asc ls ∧ Below w.heap.size w w'
/-- The same, and that the memory of the sorted ones is their own. -/
def DSortPost2 (o n : Int) (x y : List Int) (cs : List Cmd) (w : World) (e : Ending) (w' : World) : Prop :=
  ∃ (D' : Array Value) (g : Nat) (ds ls : List Cmd), e = .returned (.agg D') ∧ DeltaOf D' o n x y (.slice (some ⟨g, 0, none⟩) ds.length ds.length) ∧ CmdsIn w' (some ⟨g, 0, none⟩) ds ds.length ∧ cores ds = cores ls ∧ ls.Perm cs ∧ Asc ls ∧ Below w.heap.size w w' ∧ w.heap.size ≤ g ∧ ∀ c ∈ ds, Apart w.heap.size c.a

set_option maxRecDepth 100000 in
set_option maxHeartbeats 8000000 in
theorem dsort_any2 (D : Array Value) (o n : Int) (x y : List Int) (ca : Option Addr) (cs : List Cmd) (ccap : Nat) (hD : DeltaOf D o n x y (.slice ca cs.length ccap)) (w : World) (h : CmdsIn w ca cs ccap) (hL : cs.length ≤ 1000000) (hsm : ∀ c ∈ cs, c.l.length ≤ 1000000) :
    Calls Tryd.prog 23 #[.agg D] w (DSortPost2 o n x y cs w) := by
  have hpost : Hid (∀ (D' : Array Value) (g : Nat) (ds ls : List Cmd) (w' : World), DeltaOf D' o n x y (.slice (some ⟨g, 0, none⟩) ds.length ds.length) → CmdsIn w' (some ⟨g, 0, none⟩) ds ds.length → cores ds = cores ls → ls.Perm cs → Asc ls → Below w.heap.size w w' → w.heap.size ≤ g → (∀ c ∈ ds, Apart w.heap.size c.a) → DSortPost2 o n x y cs w (.returned (.agg D')) w') := Lib.hid fun D' g ds ls w' h1 h2 h3 h4 h5 h6 h7 h8 => ⟨D', g, ds, ls, rfl, h1, h2, h3, h4, h5, h6, h7, h8⟩
  obtain ⟨S, hS⟩ := start2 w (deltaO D) (deltaO zeroDel)
  have hq := order_any ca cs ccap S.w (h.W S) hL
  have hinf := infoDelta hD
  have hz := zero_delta
  have HC := Lib.hid h
  have HD := Lib.hid hD
  have HSM := Lib.hid hsm
  have HS := Lib.hid hS
  have d2 := (delta_held hD S w.heap.size (by simp)).2.2
  rw [← hS] at d2
  obtain ⟨L, hLe⟩ : ∃ L, L = cs.length := ⟨_, rfl⟩
  have HL := Lib.hid hLe
  have hLcap : L ≤ ccap := by rw [hLe]; exact h.len
  have hccap := h.capb
  rw [← hLe] at hq hL d2 HD
  generalize DSortPost2 o n x y cs w = POST at hpost ⊢
  clear hD h hsm hS hLe
  go_enter Tryd.func23, Tryd.ntmps23
  go_wp2_with fail
  rw [HS.out]
  clear d2 HS
  refine hq.mono ?_
  rintro e w1 ⟨g, idx, rfl, hg0, hidx, hbl, hord⟩
  obtain ⟨S1, hS1⟩ := S.after hbl
  have hDb : w1.heap[w.heap.size]? = some (deltaO D) := by rw [hS1]; exact S1.blocks (w.heap.size, deltaO D) (by simp)
  have hRb : w1.heap[w.heap.size + 1]? = some (deltaO zeroDel) := by rw [hS1]; exact S1.blocks (w.heap.size + 1, deltaO zeroDel) (by simp)
  have hb1 : Below w.heap.size w w1 := by rw [hS1]; exact S1.below
  have HB1 := Lib.hid hb1
  have HDB := Lib.hid hDb
  have HRB := Lib.hid hRb
  have HIX := Lib.hid hidx
  have HORD := Lib.hid hord
  rw [← HL.out]
  clear hS1 S1 hDb hRb hb1 hidx hord hbl hg0 hq S
  dsimp only
  go_wp2_with fail
  go_loopw [3, 5, 10] (fun vl vi vc wr => ∃ (k : Nat), k ≤ L ∧ vc = .int .i64 k ∧ ∃ s : HeldW w1 [], wr = s.w ∧ Hid (s.w.ownsRow w1.heap.size 46 5 vl k (flat5 ((lsOf cs idx).take k)))) (fun _ _ v _ => L - (intOf v).toNat)
  case atStart => exact ⟨0, by omega, rfl, HeldW.start w1, rfl, Lib.hid ⟨rfl, .inl ⟨rfl, rfl⟩⟩⟩
  case round =>
    obtain ⟨k, hk, rfl, s, rfl, hrow⟩ := hrel
    by_cases hlt : k < L
    · obtain ⟨m, c, i1, i2, i3, i4⟩ := HORD.out.at (k := k) (by rw [← HL.out]; exact hlt)
      rw [← HL.out] at i2
      have hcin := HC.out.below (HB1.out.trans (s.below.mono HB1.out.size))
      have d2 : s.w.cell? ⟨w.heap.size, 66, none⟩ = some (.slice ca L ccap) := (cell_of (heap_below HDB.out s.below) 66).trans HD.out.c66
      have z1 : s.w.cell? ⟨g, k, none⟩ = some (.int .i64 m) := by
        rw [cell_of (heap_below HIX.out s.below), Array.getElem?_map, i1]
        rfl
      obtain ⟨b, oo, rfl, x0, x1, x2, x3, x4⟩ := hcin.at i3
      have HI4 := Lib.hid i4
      clear i1 i3 i4 hcin
      go_wp2_with (refine wpList_append_cmd s hrow.out c (.tmp 14) (.tmp 20) rfl rfl rfl rfl (by omega) (fun v' s' hrow' => ?_))
      go_roundw
      case rel => exact ⟨k + 1, by omega, by go_num, s', rfl, Lib.hid (by
        have e : (lsOf cs idx).take (k + 1) = (lsOf cs idx).take k ++ [c] := by rw [List.take_add_one, HI4.out]; rfl
        rw [e, flat5_append]
        exact hrow')⟩
      case measure => simp [intOf]; omega
    · obtain rfl : k = L := by omega
      have hlen : (lsOf cs idx).length = k := by rw [HORD.out.length, ← HL.out]
      have hr := hrow.out
      rw [← hlen, List.take_length] at hr
      have hcs := HC.out.below (HB1.out.trans (s.below.mono HB1.out.size))
      have hmem : ∀ c ∈ lsOf cs idx, c ∈ cs := fun c hc => HORD.out.list.mem_iff.1 hc
      obtain ⟨a8, cap8, rfl, hc8⟩ := row_cmds hr rfl (fun c hc => hcs.ok c (hmem c hc))
      have hw := dwith_any2 D o n x y _ a8 (lsOf cs idx) cap8 HD.out s.w hc8 (by omega) (fun c hc => HSM.out c (hmem c hc))
      have hg : s.w.heap[w.heap.size]? = some (deltaO D) := heap_below HDB.out s.below
      have hg2 : s.w.heap[w.heap.size + 1]? = some (deltaO zeroDel) := heap_below HRB.out s.below
      have hbs : Below w.heap.size w s.w := HB1.out.trans (s.below.mono HB1.out.size)
      have hsz : w.heap.size + 1 < s.w.heap.size := (Array.getElem?_eq_some_iff.1 hg2).1
      have HG2 := Lib.hid hg2
      have HBS := Lib.hid hbs
      have HSZ := Lib.hid hsz
      have HW := Lib.hid hw
      clear hr hlen hcs hmem hc8 hg2 hbs hsz hw hrow
      go_wp2_with (refine wpList_load_row rfl 26 (.tmp 1) rfl w.heap.size rfl 26 _ (0, 0) _ hg Tryd.underlying26 rfl hinf ?_)
      refine HW.out.mono ?_
      rintro e w2 ⟨X, g2, es, rfl, hX, hes, hco, hbl2, hge, hap⟩
      have hg1 : w2.heap[w.heap.size + 1]? = some (deltaO zeroDel) := heap_below HG2.out hbl2
      have hinfX := infoDelta hX
      have hone := hX.one rfl
      have hszX : zeroDel.size = X.size := by rw [zeroDel_of.size, hX.size]
      have hoth : ∀ j, j ≠ w.heap.size + 1 → (w2.setRow (w.heap.size + 1) X).heap[j]? = w2.heap[j]? := fun j hj => setRow_other _ _ _ _ hj
      have HP : Hid (POST (.returned (.agg X)) (w2.setRow (w.heap.size + 1) X)) := Lib.hid (by
        have hsz := HSZ.out
        refine hpost.out X g2 es (lsOf cs idx) _ hX ?_ hco HORD.out.list HORD.out.asc2 (below_setRow (HBS.out.trans (hbl2.mono HBS.out.size)) (by omega) _) (Nat.le_trans HBS.out.size hge) (fun c hc ad had => Nat.le_trans HBS.out.size (hap c hc ad had))
        refine ⟨hes.len, hes.capb, fun hp => ?_, fun c hc => (hes.ok c hc).apart (hap c hc) (fun j hj _ => hoth j (by omega)), hes.nil⟩
        obtain ⟨b', o', e, hcell⟩ := hes.cells hp
        refine ⟨b', o', e, fun i c hc j u hu => ?_⟩
        simp only [Option.some.injEq, Addr.mk.injEq] at e
        obtain ⟨rfl, rfl, _⟩ := e
        rw [World.cell?_of_block (w := w2) (w' := w2.setRow (w.heap.size + 1) X) (hoth g2 (by omega))]
        exact hcell i c hc j u hu)
      clear hoth hes hco hap hg hX
      go_wp2_with (refine wpList_store_rowTo rfl 26 (.tmp 2) (.tmp 25) rfl rfl (w.heap.size + 1) X rfl rfl 26 zeroDel hg1 hinfX hszX hone ?_)
      refine bodyPost_ret (v := .agg X) ?_ rfl HP.out
      exact results_cell_row Tryd.results23 _ _ (w.heap.size + 1) 26 _ (0, 0) _ rfl (setRow_heap _ _ _ _ _ _ hg1) Tryd.underlying26 rfl hinfX
theorem dsort_any (D : Array Value) (o n : Int) (x y : List Int) (ca : Option Addr) (cs : List Cmd) (ccap : Nat) (hD : DeltaOf D o n x y (.slice ca cs.length ccap)) (w : World) (h : CmdsIn w ca cs ccap) (hL : cs.length ≤ 1000000) (hsm : ∀ c ∈ cs, c.l.length ≤ 1000000) :
    Calls Tryd.prog 23 #[.agg D] w (DSortPost o n x y cs w) :=
  (dsort_any2 D o n x y ca cs ccap hD w h hL hsm).mono fun _ _ ⟨D', g, ds, ls, h1, h2, h3, h4, h5, h6, h7, _⟩ => ⟨D', g, ds, ls, h1, h2, h3, h4, h5, h6, h7⟩
end Go.Proofs.YtdedfjkenbaebaaDoor

/- Totals of package delta and of its reference, at a valid delta. -/
namespace Go.Proofs.YtdedfjkenbaebaaDoor
open Go.RowKit Go.Shelf Go.Proofs.YtdedfjkenbaebaaDoor.Plain01
set_option linter.unusedVariables false
set_option linter.unusedSimpArgs false

theorem take_succ_of {cs : List Cmd} {k : Nat} {c : Cmd} (h : cs[k]? = some c) : cs.take (k + 1) = cs.take k ++ [c] := by rw [List.take_add_one, h]; rfl
theorem copied_succ {cs : List Cmd} {k : Nat} {c : Cmd} (h : cs[k]? = some c) : copied (cs.take (k + 1)) = copied (cs.take k) + (if c.k = 1 then c.n else 0) := by rw [take_succ_of h]; simp [copied]
theorem literal_succ {cs : List Cmd} {k : Nat} {c : Cmd} (h : cs[k]? = some c) : literal (cs.take (k + 1)) = literal (cs.take k) + (if c.k = 1 then 0 else (c.l.length : Int)) := by rw [take_succ_of h]; simp [literal]

end Go.Proofs.YtdedfjkenbaebaaDoor
