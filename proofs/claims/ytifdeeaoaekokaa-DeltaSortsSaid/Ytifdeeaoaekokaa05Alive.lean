/- The fault of a delta depends on what its commands hold, not on where: mathematics; the example of the chapter. The example of the chapter. -/
import Derived.Test.Ytifdeeaoaekokaa05RSameD
import Derived.Test.Ytifdeeaoaekokaa05RCheck
import Derived.Test.Ytifdeeaoaekokaa05Check
import Derived.Laws.StructEq
import Derived.Lib.SlBytesConst
import Derived.Great.BuildSlice
import Derived.Test.Ytifdeeaoaekokaa00Guard
import Derived.Test.Ytifdeeaoaekokaa05With2
import Derived.Test.Ytifdeeaoaekokaa05Find
namespace Go.Proofs.Ytifdeeaoaekokaa
open Go.Proofs.Ytifdeeaoaekokaa.Plain01
set_option linter.unusedVariables false

def Cmd.strip (c : Cmd) : Cmd := ⟨c.k, c.t, c.f, c.n, c.l, none, 0⟩
theorem strip_cores {cs ds : List Cmd} (h : cores cs = cores ds) : cs.map Cmd.strip = ds.map Cmd.strip := by
  have e : ∀ l : List Cmd, l.map Cmd.strip = (cores l).map fun p => (⟨p.1, p.2.1, p.2.2.1, p.2.2.2.1, p.2.2.2.2, none, 0⟩ : Cmd) := fun l => by
    unfold cores
    rw [List.map_map]
    rfl
  rw [e, e, h]
theorem refspec_strip {o n : Int} {cs : List Cmd} {e a : Int} : RefSpec o n (cs.map Cmd.strip) e a ↔ RefSpec o n cs e a := by
  have ht : (cs.map Cmd.strip).map Cmd.tgt = cs.map Cmd.tgt := by rw [List.map_map]; rfl
  have hs : ∀ c : Cmd, single o n c.strip = single o n c := fun _ => rfl
  have hall : AllOK o n (cs.map Cmd.strip) ↔ AllOK o n cs := by
    unfold AllOK
    constructor
    · intro h c hc
      rw [← hs]
      exact h _ (List.mem_map_of_mem hc)
    · intro h c hc
      obtain ⟨c', hc', rfl⟩ := List.mem_map.1 hc
      rw [hs]
      exact h c' hc'
  have hov : ∀ i, Over (cs.map Cmd.strip) i ↔ Over cs i := fun i => by
    unfold Over
    constructor
    · rintro ⟨j, a, b, hj, ha, hb, hn⟩
      rw [List.getElem?_map] at ha hb
      obtain ⟨a', ha', rfl⟩ := Option.map_eq_some_iff.1 ha
      obtain ⟨b', hb', rfl⟩ := Option.map_eq_some_iff.1 hb
      exact ⟨j, a', b', hj, ha', hb', hn⟩
    · rintro ⟨j, a, b, hj, ha, hb, hn⟩
      exact ⟨j, a.strip, b.strip, hj, by rw [List.getElem?_map, ha]; rfl, by rw [List.getElem?_map, hb]; rfl, hn⟩
  unfold RefSpec
  rw [ht, hall]
  simp only [hov]
  have h2 : (∃ (i : Nat) (c : Cmd), (cs.map Cmd.strip)[i]? = some c ∧ single o n c ≠ 0 ∧ (∀ (j : Nat) (c' : Cmd), j < i → (cs.map Cmd.strip)[j]? = some c' → single o n c' = 0) ∧ e = single o n c ∧ a = i) ↔ (∃ (i : Nat) (c : Cmd), cs[i]? = some c ∧ single o n c ≠ 0 ∧ (∀ (j : Nat) (c' : Cmd), j < i → cs[j]? = some c' → single o n c' = 0) ∧ e = single o n c ∧ a = i) := by
    constructor
    · rintro ⟨i, c, hc, h1, h2, h3, h4⟩
      rw [List.getElem?_map] at hc
      obtain ⟨c', hc', rfl⟩ := Option.map_eq_some_iff.1 hc
      exact ⟨i, c', hc', h1, fun j d hj hd => by
        have := h2 j d.strip hj (by rw [List.getElem?_map, hd]; rfl)
        exact this, h3, h4⟩
    · rintro ⟨i, c, hc, h1, h2, h3, h4⟩
      exact ⟨i, c.strip, by rw [List.getElem?_map, hc]; rfl, h1, fun j d hj hd => by
        rw [List.getElem?_map] at hd
        obtain ⟨d', hd', rfl⟩ := Option.map_eq_some_iff.1 hd
        exact h2 j d' hj hd', h3, h4⟩
  rw [h2]
theorem RefSpec.of_cores {o n : Int} {cs ds : List Cmd} {e a : Int} (h : RefSpec o n cs e a) (hc : cores ds = cores cs) : RefSpec o n ds e a := by
  rw [← refspec_strip, strip_cores hc, refspec_strip]
  exact h
theorem faultOf_cores {o n : Int} {cs ds : List Cmd} (hc : cores ds = cores cs) : faultOf o n ds = faultOf o n cs := faultOf_eq ((faultOf_spec o n cs).of_cores hc)
theorem valid_cores {o n : Int} {cs ds : List Cmd} (hc : cores ds = cores cs) (h : ValidD o n cs) : ValidD o n ds := by
  rw [← faultOf_zero, faultOf_cores hc, faultOf_zero]
  exact h

/-- The example of the chapter. -/
def exA : Cmd := ⟨1, 2, 0, 4, [], none, 0⟩
def exB (g : Nat) : Cmd := ⟨2, 0, 0, 0, [97, 98], some ⟨g, 0, none⟩, 2⟩
theorem ex_lens : ¬ LensBad 4 6 := by unfold LensBad; omega
theorem ex_sA : single 4 6 exA = 0 := by decide
theorem ex_sB (g : Nat) : single 4 6 (exB g) = 0 := by
  show single 4 6 (exB 0) = 0
  decide
theorem ex_valid (g : Nat) : ValidD 4 6 [exA, exB g] := ⟨ex_lens, fun c hc => by
    simp only [List.mem_cons, List.not_mem_nil, or_false] at hc
    rcases hc with rfl | rfl
    · exact ex_sA
    · exact ex_sB g, by
    show Tiles 0 6 [(2, 4), (0, 2)]
    refine ⟨fun p hp => ?_, ?_, fun x h0 h1 => ?_⟩
    · simp only [List.mem_cons, List.not_mem_nil, or_false] at hp
      rcases hp with rfl | rfl <;> simp
    · simp [Off]
    · by_cases h : x < 2
      · exact ⟨(0, 2), by simp, by simp; omega⟩
      · exact ⟨(2, 4), by simp, by simp; omega⟩⟩
theorem ex_fault (g : Nat) : faultOf 4 6 [exA, exB g] = (0, 0) := faultOf_eq (ex_valid g).spec
theorem ex_gap : faultOf 4 6 [exA] = (3, 0) := by
  refine faultOf_eq (Or.inr (Or.inr (Or.inr (Or.inl ⟨ex_lens, fun c hc => ?_, fun i ho => ?_, 0, ?_, rfl, rfl⟩))))
  · simp only [List.mem_cons, List.not_mem_nil, or_false] at hc
    subst hc; exact ex_sA
  · obtain ⟨j, a, b, hj, ha, _⟩ := ho
    have := (List.getElem?_eq_some_iff.1 ha).1
    simp at this; omega
  · show Gap 6 [(2, 4)] 0
    refine ⟨by omega, by omega, fun ⟨p, hp, h1, h2⟩ => ?_, fun x h0 h1 => by omega⟩
    simp only [List.mem_cons, List.not_mem_nil, or_false] at hp
    subst hp
    simp at h1
theorem ex_find (g : Nat) : findOf [exA, exB g] 1 = 1 := by
  refine findOf_eq ⟨fun h => absurd h (by omega), fun _ => ⟨1, exB g, rfl, rfl, ?_, fun j c hj hc => ?_⟩⟩
  · unfold Cmd.has; show (0 : Int) ≤ 1 ∧ (1 : Int) < 0 + 2; omega
  · obtain rfl : j = 0 := by omega
    cases hc
    unfold Cmd.has
    show ¬ ((2 : Int) ≤ 1 ∧ _)
    omega
theorem ex_cover (g : Nat) : ∀ c ∈ [exA, exB g], okE c.tgt = true ∧ (c.k = 1 ∨ c.k = 2) := fun c hc => by
  simp only [List.mem_cons, List.not_mem_nil, or_false] at hc
  rcases hc with rfl | rfl
  · exact ⟨by decide, Or.inl rfl⟩
  · exact ⟨by show okE (exB 0).tgt = true; decide, Or.inr rfl⟩
end Go.Proofs.Ytifdeeaoaekokaa

namespace Go.Proofs.Ytifdeeaoaekokaa
open Go.RowKit Go.Shelf Go.Proofs.Ytifdeeaoaekokaa.Plain01
set_option linter.unusedVariables false
set_option linter.unusedSimpArgs false

/-- The blocks of the example. -/
abbrev exRow (g : Nat) : Obj := .cells #[.int .i64 1, .int .i64 2, .int .i64 0, .int .i64 4, .slice none 0 0, .int .i64 2, .int .i64 0, .int .i64 0, .int .i64 0, .slice (some ⟨g, 0, none⟩) 2 2] 42 (0, 0)
abbrev exAB : Obj := .cells #[.int .u8 97, .int .u8 98] 5 (2, 3)
abbrev exW (w : World) (D : Array Value) : World := ((((w.alloc (cmdO 1 2 0 4 (.slice none 0 0))).alloc exAB).alloc (cmdO 2 0 0 0 (.slice (some ⟨w.heap.size + 1, 0, none⟩) 2 2))).alloc (exRow (w.heap.size + 1))).alloc (deltaO D)
theorem ex_world (w : World) (D : Array Value) : ∃ S : HeldW w [(w.heap.size + 1 + 1 + 1 + 1, deltaO D), (w.heap.size + 1 + 1 + 1, exRow (w.heap.size + 1)), (w.heap.size + 1 + 1, cmdO 2 0 0 0 (.slice (some ⟨w.heap.size + 1, 0, none⟩) 2 2)), (w.heap.size + 1, exAB), (w.heap.size, cmdO 1 2 0 4 (.slice none 0 0))], exW w D = S.w := by
  obtain ⟨S, hS⟩ := start3 w (cmdO 1 2 0 4 (.slice none 0 0)) exAB (cmdO 2 0 0 0 (.slice (some ⟨w.heap.size + 1, 0, none⟩) 2 2))
  have e3 : S.w.heap.size = w.heap.size + 1 + 1 + 1 := by rw [← hS]; simp
  obtain ⟨B, S1, hB, _, _, hS1⟩ := S.more1 (exRow (w.heap.size + 1))
  obtain rfl : B = w.heap.size + 1 + 1 + 1 := hB.trans e3
  have e4 : S1.w.heap.size = w.heap.size + 1 + 1 + 1 + 1 := by rw [← hS1, World.size_alloc, e3]
  obtain ⟨B, S2, hB2, _, _, hS2⟩ := S1.more1 (deltaO D)
  obtain rfl : B = w.heap.size + 1 + 1 + 1 + 1 := hB2.trans e4
  exact ⟨S2, by rw [← hS2, ← hS1, ← hS]⟩
theorem ex_set (w : World) (D : Array Value) : (exW w zeroDel).setRow (w.heap.size + 1 + 1 + 1 + 1) D = exW w D := by
  have e : w.heap.size + 1 + 1 + 1 + 1 = ((((w.alloc (cmdO 1 2 0 4 (.slice none 0 0))).alloc exAB).alloc (cmdO 2 0 0 0 (.slice (some ⟨w.heap.size + 1, 0, none⟩) 2 2))).alloc (exRow (w.heap.size + 1))).heap.size := by simp
  rw [e]
  exact World.setRow_alloc_new _ _ _ _
theorem row_one {W : World} {B : Nat} (hr : W.heap[B]? = some (rowC #[.int .i64 1, .int .i64 2, .int .i64 0, .int .i64 4, .slice none 0 0])) : CmdsIn W (some ⟨B, 0, none⟩) [exA] 1 := by
  refine ⟨by simp, by omega, fun _ => ⟨_, 0, rfl, fun i c hc j u hu => ?_⟩, fun c hc => ?_, fun h => by cases h⟩
  · rw [Nat.zero_add, cell_of hr]
    have hi : i < 1 := by simpa using (List.getElem?_eq_some_iff.1 hc).1
    have hj : j < 5 := by simpa [Cmd.cells] using (List.getElem?_eq_some_iff.1 hu).1
    obtain rfl : i = 0 := by omega
    cases hc
    match j, hj with
    | 0, _ => cases hu; rfl
    | 1, _ => cases hu; rfl
    | 2, _ => cases hu; rfl
    | 3, _ => cases hu; rfl
    | 4, _ => cases hu; rfl
  · simp only [List.mem_cons, List.not_mem_nil, or_false] at hc
    subst hc
    exact ⟨by unfold I64 exA; simp, by unfold I64 exA; simp, by unfold I64 exA; simp, by unfold I64 exA; simp, bytes_nil W, okB_nil⟩
theorem ex_cmds {w W : World} (hr : W.heap[w.heap.size + 1 + 1 + 1]? = some (exRow (w.heap.size + 1))) (hb : W.heap[w.heap.size + 1]? = some exAB) : CmdsIn W (some ⟨w.heap.size + 1 + 1 + 1, 0, none⟩) [exA, exB (w.heap.size + 1)] 2 := by
  refine ⟨by simp, by omega, fun _ => ⟨_, 0, rfl, fun i c hc j u hu => ?_⟩, fun c hc => ?_, fun h => by cases h⟩
  · rw [Nat.zero_add, cell_of hr]
    have hi : i < 2 := by simpa using (List.getElem?_eq_some_iff.1 hc).1
    have hj : j < 5 := by simpa [Cmd.cells] using (List.getElem?_eq_some_iff.1 hu).1
    match i, hi with
    | 0, _ =>
      cases hc
      match j, hj with
      | 0, _ => cases hu; rfl
      | 1, _ => cases hu; rfl
      | 2, _ => cases hu; rfl
      | 3, _ => cases hu; rfl
      | 4, _ => cases hu; rfl
    | 1, _ =>
      cases hc
      match j, hj with
      | 0, _ => cases hu; rfl
      | 1, _ => cases hu; rfl
      | 2, _ => cases hu; rfl
      | 3, _ => cases hu; rfl
      | 4, _ => cases hu; rfl
  · simp only [List.mem_cons, List.not_mem_nil, or_false] at hc
    rcases hc with rfl | rfl
    · exact ⟨by unfold I64 exA; simp, by unfold I64 exA; simp, by unfold I64 exA; simp, by unfold I64 exA; simp, bytes_nil W, okB_nil⟩
    · refine ⟨by unfold I64 exB; simp, by unfold I64 exB; simp, by unfold I64 exB; simp, by unfold I64 exB; simp, ⟨by simp [exB], by simp [exB], fun _ => ⟨_, 0, rfl, fun i hi => ?_⟩, fun h => by cases h⟩, fun x hx => ?_⟩
      · rw [Nat.zero_add, cell_of_row _ _ _ _ _ _ hb]
        have : i = 0 ∨ i = 1 := by simp [exB] at hi; omega
        rcases this with rfl | rfl <;> rfl
      · simp [exB] at hx
        rcases hx with rfl | rfl <;> omega

set_option maxRecDepth 100000 in
set_option maxHeartbeats 4000000 in
theorem alive05_gives (w : World) : Calls Try.prog 10 #[] w (Gives (.bool true) w) := by
  have hD0 : DeltaOf (((zeroDel.setIfInBounds 0 (.int .i64 4)).setIfInBounds 1 (.int .i64 6)).setIfInBounds 66 (.slice (some ⟨w.heap.size + 1 + 1 + 1, 0, none⟩) 2 2)) 4 6 zeros32 zeros32 (.slice (some ⟨w.heap.size + 1 + 1 + 1, 0, none⟩) 2 2) := ⟨rfl, rfl, rfl⟩
  have hgN : (exW w zeroDel).heap[w.heap.size + 1 + 1 + 1 + 1]? = some (deltaO zeroDel) := heap_new _ _ (by simp)
  have hinf := infoDelta hD0
  have hone := hD0.one rfl
  have hsz : zeroDel.size = (((zeroDel.setIfInBounds 0 (.int .i64 4)).setIfInBounds 1 (.int .i64 6)).setIfInBounds 66 (.slice (some ⟨w.heap.size + 1 + 1 + 1, 0, none⟩) 2 2)).size := by rw [zeroDel_of.size, hD0.size]
  obtain ⟨S, hS⟩ := ex_world w (((zeroDel.setIfInBounds 0 (.int .i64 4)).setIfInBounds 1 (.int .i64 6)).setIfInBounds 66 (.slice (some ⟨w.heap.size + 1 + 1 + 1, 0, none⟩) 2 2))
  have HX := Lib.hid ((ex_set w (((zeroDel.setIfInBounds 0 (.int .i64 4)).setIfInBounds 1 (.int .i64 6)).setIfInBounds 66 (.slice (some ⟨w.heap.size + 1 + 1 + 1, 0, none⟩) 2 2))).trans hS)
  have hg := S.blocks (w.heap.size + 1 + 1 + 1 + 1, deltaO (((zeroDel.setIfInBounds 0 (.int .i64 4)).setIfInBounds 1 (.int .i64 6)).setIfInBounds 66 (.slice (some ⟨w.heap.size + 1 + 1 + 1, 0, none⟩) 2 2))) (by simp)
  have hcm : ∀ s : HeldW w [(w.heap.size + 1 + 1 + 1 + 1, deltaO (((zeroDel.setIfInBounds 0 (.int .i64 4)).setIfInBounds 1 (.int .i64 6)).setIfInBounds 66 (.slice (some ⟨w.heap.size + 1 + 1 + 1, 0, none⟩) 2 2))), (w.heap.size + 1 + 1 + 1, exRow (w.heap.size + 1)), (w.heap.size + 1 + 1, cmdO 2 0 0 0 (.slice (some ⟨w.heap.size + 1, 0, none⟩) 2 2)), (w.heap.size + 1, exAB), (w.heap.size, cmdO 1 2 0 4 (.slice none 0 0))], CmdsIn s.w (some ⟨w.heap.size + 1 + 1 + 1, 0, none⟩) [exA, exB (w.heap.size + 1)] 2 := fun s => ex_cmds (s.blocks (w.heap.size + 1 + 1 + 1, exRow (w.heap.size + 1)) (by simp)) (s.blocks (w.heap.size + 1, exAB) (by simp))
  have h1 := fun s => dcheck_any (((zeroDel.setIfInBounds 0 (.int .i64 4)).setIfInBounds 1 (.int .i64 6)).setIfInBounds 66 (.slice (some ⟨w.heap.size + 1 + 1 + 1, 0, none⟩) 2 2)) 4 6 zeros32 zeros32 _ [exA, exB (w.heap.size + 1)] 2 hD0 _ (hcm s) (by simp) (by unfold I64; omega) (by unfold I64; omega)
  have h5 := fun s => dfind_any (((zeroDel.setIfInBounds 0 (.int .i64 4)).setIfInBounds 1 (.int .i64 6)).setIfInBounds 66 (.slice (some ⟨w.heap.size + 1 + 1 + 1, 0, none⟩) 2 2)) 4 6 zeros32 zeros32 _ [exA, exB (w.heap.size + 1)] 2 hD0 1 _ (hcm s) (ex_cover _)
  have h6 := fun s => dvalid_any (((zeroDel.setIfInBounds 0 (.int .i64 4)).setIfInBounds 1 (.int .i64 6)).setIfInBounds 66 (.slice (some ⟨w.heap.size + 1 + 1 + 1, 0, none⟩) 2 2)) 4 6 zeros32 zeros32 _ [exA, exB (w.heap.size + 1)] 2 hD0 _ (hcm s) (by simp) (by unfold I64; omega) (by unfold I64; omega)
  have h3 := fun (W : World) a h => dwith_any (((zeroDel.setIfInBounds 0 (.int .i64 4)).setIfInBounds 1 (.int .i64 6)).setIfInBounds 66 (.slice (some ⟨w.heap.size + 1 + 1 + 1, 0, none⟩) 2 2)) 4 6 zeros32 zeros32 _ a [exA] 1 hD0 W h (by simp) (by simp [exA])
  rw [ex_fault] at h1 h6
  rw [ex_find] at h5
  have hcA := fun s : HeldW w [(w.heap.size + 1 + 1 + 1 + 1, deltaO (((zeroDel.setIfInBounds 0 (.int .i64 4)).setIfInBounds 1 (.int .i64 6)).setIfInBounds 66 (.slice (some ⟨w.heap.size + 1 + 1 + 1, 0, none⟩) 2 2))), (w.heap.size + 1 + 1 + 1, exRow (w.heap.size + 1)), (w.heap.size + 1 + 1, cmdO 2 0 0 0 (.slice (some ⟨w.heap.size + 1, 0, none⟩) 2 2)), (w.heap.size + 1, exAB), (w.heap.size, cmdO 1 2 0 4 (.slice none 0 0))] => held_cmd s w.heap.size 1 2 0 4 (.slice none 0 0) (by simp)
  have hgD := fun s : HeldW w [(w.heap.size + 1 + 1 + 1 + 1, deltaO (((zeroDel.setIfInBounds 0 (.int .i64 4)).setIfInBounds 1 (.int .i64 6)).setIfInBounds 66 (.slice (some ⟨w.heap.size + 1 + 1 + 1, 0, none⟩) 2 2))), (w.heap.size + 1 + 1 + 1, exRow (w.heap.size + 1)), (w.heap.size + 1 + 1, cmdO 2 0 0 0 (.slice (some ⟨w.heap.size + 1, 0, none⟩) 2 2)), (w.heap.size + 1, exAB), (w.heap.size, cmdO 1 2 0 4 (.slice none 0 0))] => s.blocks (w.heap.size + 1 + 1 + 1 + 1, deltaO (((zeroDel.setIfInBounds 0 (.int .i64 4)).setIfInBounds 1 (.int .i64 6)).setIfInBounds 66 (.slice (some ⟨w.heap.size + 1 + 1 + 1, 0, none⟩) 2 2))) (by simp)
  have H1 := Lib.hid h1
  have H3 := Lib.hid h3
  have H5 := Lib.hid h5
  have H6 := Lib.hid h6
  have HCA := Lib.hid hcA
  have HGD := Lib.hid hgD
  have hz := zero_delta
  clear hD0 hS hcm h1 h3 h5 h6 hcA hgD
  have hcv : (convert 40 40 (.slice (some ⟨w.heap.size + 1, 0, none⟩) 2 2)).run Try.prog ((w.alloc (cmdO 1 2 0 4 (.slice none 0 0))).alloc (.cells #[.int .u8 97, .int .u8 98] 5)) = .ok (.slice (some ⟨w.heap.size + 1, 0, none⟩) 2 2) ((w.alloc (cmdO 1 2 0 4 (.slice none 0 0))).alloc (.cells #[.int .u8 97, .int .u8 98] 5 (2, 3))) := by
    have := Lib.run_convert_bytes_const (P := Try.prog) (w.alloc (cmdO 1 2 0 4 (.slice none 0 0))) 40 5 #[.int .u8 97, .int .u8 98] 2 2 Try.underlying40 Try.underlying5
    rw [World.size_alloc] at this
    exact this
  go_enter Try.func10, Try.ntmps10
  go_wp2_with (first
    | (refine wpList_buildTo rfl 25 _ rfl (some 11) rfl (((zeroDel.setIfInBounds 0 (.int .i64 4)).setIfInBounds 1 (.int .i64 6)).setIfInBounds 66 (.slice (some ⟨w.heap.size + 1 + 1 + 1, 0, none⟩) 2 2)) (by kernel_rfl) ?_)
    | (refine wpList_store_rowTo rfl 25 (.tmp 3) (.tmp 11) rfl rfl (w.heap.size + 1 + 1 + 1 + 1) (((zeroDel.setIfInBounds 0 (.int .i64 4)).setIfInBounds 1 (.int .i64 6)).setIfInBounds 66 (.slice (some ⟨w.heap.size + 1 + 1 + 1, 0, none⟩) 2 2)) rfl rfl 25 zeroDel hgN hinf hsz hone ?_; rw [HX.out])
    | (refine wpList_load_row rfl 25 (.tmp 3) rfl (w.heap.size + 1 + 1 + 1 + 1) rfl 25 _ (0, 0) _ hg Try.underlying25 rfl hinf ?_))
  clear hgN hg
  generalize (((zeroDel.setIfInBounds 0 (.int .i64 4)).setIfInBounds 1 (.int .i64 6)).setIfInBounds 66 (.slice (some ⟨w.heap.size + 1 + 1 + 1, 0, none⟩) 2 2)) = D at *
  refine (HeldW.call (H1.out S)).mono ?_
  rintro e _ ⟨rfl, s2, rfl⟩
  have hg := HGD.out s2
  obtain ⟨a0, a1, a2, a3, a4, _⟩ := HCA.out s2
  go_wp2_with (first
    | (refine wpList_load_rowG rfl 25 (.tmp 3) rfl (some 17) rfl (w.heap.size + 1 + 1 + 1 + 1) rfl 25 _ (0, 0) _ hg Try.underlying25 rfl hinf ?_))
  obtain ⟨B, s3, hB, hB0, _, hS⟩ := s2.more1 (rowC #[.int .i64 1, .int .i64 2, .int .i64 0, .int .i64 4, .slice none 0 0])
  rw [hS, ← hB]
  clear hS hB hg a0 a1 a2 a3 a4
  refine (H3.out s3.w _ (row_one (s3.blocks _ List.mem_cons_self))).mono ?_
  rintro e _ ⟨D', g, ds, rfl, hD', hds, hco, hbl⟩
  obtain ⟨s4', hs4⟩ := s3.after hbl
  obtain ⟨s4, hs5⟩ : ∃ s4 : HeldW w [(w.heap.size + 1 + 1 + 1 + 1, deltaO D), (w.heap.size + 1 + 1 + 1, exRow (w.heap.size + 1)), (w.heap.size + 1 + 1, cmdO 2 0 0 0 (.slice (some ⟨w.heap.size + 1, 0, none⟩) 2 2)), (w.heap.size + 1, exAB), (w.heap.size, cmdO 1 2 0 4 (.slice none 0 0))], s4'.w = s4.w := ⟨s4'.sub (fun p hp => List.mem_cons_of_mem _ hp), rfl⟩
  rw [hs4, hs5] at hds ⊢
  have hlen : ds.length = 1 := cores_len hco
  have h4 := dcheck_any D' 4 6 zeros32 zeros32 _ ds _ hD' s4.w hds (by omega) (by unfold I64; omega) (by unfold I64; omega)
  rw [faultOf_cores hco, ex_gap] at h4
  clear hs4 hs5 s4' hbl hds hD' hco hlen s3 hB0
  go_wp2_with fail
  refine (HeldW.call h4).mono ?_
  rintro e _ ⟨rfl, s5, rfl⟩
  clear h4 s4
  have hg := HGD.out s5
  go_wp2_with (first
    | (refine wpList_load_rowG rfl 25 (.tmp 3) rfl (some 26) rfl (w.heap.size + 1 + 1 + 1 + 1) rfl 25 _ (0, 0) _ hg Try.underlying25 rfl hinf ?_))
  clear hg
  refine (HeldW.call (H5.out s5)).mono ?_
  rintro e _ ⟨rfl, s6, rfl⟩
  have hg := HGD.out s6
  go_wp2_with (first
    | (refine wpList_load_rowG rfl 25 (.tmp 3) rfl (some 31) rfl (w.heap.size + 1 + 1 + 1 + 1) rfl 25 _ (0, 0) _ hg Try.underlying25 rfl hinf ?_))
  clear hg
  refine (HeldW.call (H6.out s6)).mono ?_
  rintro e _ ⟨rfl, s7, rfl⟩
  go_wp2
  go_ret
  exact ⟨by simp, s7.below⟩
end Go.Proofs.Ytifdeeaoaekokaa
