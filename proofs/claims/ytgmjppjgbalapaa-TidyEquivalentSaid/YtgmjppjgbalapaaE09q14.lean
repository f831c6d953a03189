import Derived.Laws.StructEq
import Derived.Test.YtgmjppjgbalapaaE09q13
import Derived.Test.YtgmjppjgbalapaaE09q4
import Derived.Laws.MakeOwn
import Derived.Test.YtgmjppjgbalapaaE09q10
import Derived.Shelf.Abstract
import Derived.Test.YtgmjppjgbalapaaE09q12
/- CommandParts returns true for every command and extent, and changes nothing that was there. -/
namespace Go.Proofs.Ytgmjppjgbalapaa
open Go.RowKit Go.Shelf Go.Proofs.Ytgmjppjgbalapaa.Plain01
set_option linter.unusedVariables false
set_option linter.unusedSimpArgs false

/-- The cells of a boxed command, in whatever later world. -/
theorem cmd_later {w1 : World} {b : Nat} {k t f n : Int} {v : Value} (h : w1.heap[b]? = some (cmdO k t f n v)) : ∀ W, Below w1.heap.size w1 W →
    W.cell? ⟨b, 0, none⟩ = some (.int .i64 k) ∧ W.cell? ⟨b, 1, none⟩ = some (.int .i64 t) ∧ W.cell? ⟨b, 2, none⟩ = some (.int .i64 f) ∧ W.cell? ⟨b, 3, none⟩ = some (.int .i64 n) ∧ W.cell? ⟨b, 4, none⟩ = some v := fun W hW => cmd_cells (heap_below h hW)
theorem ext_later {w1 : World} {b : Nat} {x : Int × Int} (h : w1.heap[b]? = some (extO x)) : ∀ W, Below w1.heap.size w1 W → W.cell? ⟨b, 0, none⟩ = some (.int .i64 x.1) ∧ W.cell? ⟨b, 1, none⟩ = some (.int .i64 x.2) := fun W hW =>
  ⟨(ext_cells (heap_below h hW)).1, (ext_cells (heap_below h hW)).2.1⟩
theorem IsOwn.bytes {base : Nat} {mk : Value → Value} {Q : List Int} {v : Value} {W : World} (h : IsOwn base mk Q v W) (hb : base ≤ W.heap.size) : ∃ A C, v = mk (.slice A Q.length C) ∧ BytesIn W A Q C := by
  obtain ⟨A, C, hv, h1, h2⟩ := h
  refine ⟨A, C, hv, ?_⟩
  rcases h2 with ⟨h3, h0⟩ | ⟨g, cap, cur, h3, hg, hbk, hc, hm, hs, ht⟩
  · have h4 := List.eq_nil_of_length_eq_zero h0
    subst h4
    simp at h3
    obtain ⟨rfl, rfl⟩ := h3
    exact bytes_nil W
  · simp at h3
    obtain ⟨rfl, rfl⟩ := h3
    refine ⟨hc, by unfold maxLen at hm; omega, fun hp => ⟨g, 0, rfl, fun i hi => ?_⟩, fun h => by cases h⟩
    rw [Nat.zero_add, cell_of hbk]
    have : (cur.toList.take (Q.length * 1))[i]? = (Q.map (Value.int .u8))[i]? := by rw [ht]
    rw [List.getElem?_take, if_pos (by omega), List.getElem?_map, List.getElem?_eq_getElem hi] at this
    rw [List.getElem?_eq_getElem hi]
    simpa using this

/-- Bytes in a block that is known whole. -/
theorem bytes_block {W : World} {g C m : Nat} {cur : Array Value} {Q : List Int} {t : TypeId} {fr : Nat × Nat} (h : W.heap[g]? = some (.cells cur t fr)) (hQ : Q.length = m) (h1 : m ≤ C) (h2 : C ≤ 9223372036854775807) (hc : ∀ (j : Nat) (u : Value), (Q.map (Value.int .u8))[j]? = some u → cur[j]? = some u) : BytesIn W (some ⟨g, 0, none⟩) Q C :=
  ⟨by omega, h2, fun hp => ⟨g, 0, rfl, fun i hi => by
    rw [Nat.zero_add, cell_of_row W g _ _ _ _ h]
    exact hc i _ (by rw [List.getElem?_map, List.getElem?_eq_getElem hi]; rfl)⟩, fun h => by cases h⟩

end Go.Proofs.Ytgmjppjgbalapaa

/- With of the reference. delta.With: the same lengths and digests, other commands, in memory of their own. delta.With, walked. -/
namespace Go.Proofs.Ytgmjppjgbalapaa
open Go.RowKit Go.Shelf Go.Proofs.Ytgmjppjgbalapaa.Plain01
set_option linter.unusedVariables false
set_option linter.unusedSimpArgs false

def zeros32 : List Int := List.replicate 32 0
def zeroDel : Array Value := deltaA 0 0 zeros32 zeros32 (.slice none 0 0)
theorem zero_delta (w : World) : (zeroValue 34).run Try.prog w = .ok (.agg zeroDel) w := by kernel_rfl
theorem zeroDel_of : DeltaOf zeroDel 0 0 zeros32 zeros32 (.slice none 0 0) := ⟨rfl, rfl, rfl⟩
theorem DeltaOf.set {D : Array Value} {o n : Int} {x y : List Int} {s : Value} (h : DeltaOf D o n x y s) (v : Value) : DeltaOf (D.setIfInBounds 66 v) o n x y v := by
  refine ⟨?_, h.xl, h.yl⟩
  rw [h.eq]
  unfold deltaA deltaL
  simp [List.set_append, h.xl, h.yl]
theorem DeltaOf.one {D : Array Value} {o n : Int} {x y : List Int} {s : Value} (h : DeltaOf D o n x y s) (hs : s.oneCell' = true) : D.all (·.oneCell') = true := by
  rw [h.eq, Array.all_eq_true_iff_forall_mem]
  intro v hv
  unfold deltaA deltaL at hv
  simp only [List.mem_toArray, List.mem_cons, List.mem_append, List.mem_map, List.not_mem_nil, or_false] at hv
  rcases hv with rfl | rfl | ⟨_, _, rfl⟩ | ⟨_, _, rfl⟩ | rfl
  · rfl
  · rfl
  · rfl
  · rfl
  · exact hs

set_option maxRecDepth 100000 in
set_option maxHeartbeats 4000000 in
theorem rwith_any (D : Array Value) (o n : Int) (x y : List Int) (s0 : Value) (a : Option Addr) (L cap : Nat) (hD : DeltaOf D o n x y s0) (w : World) :
    Calls Try.prog 37 #[.agg D, .slice a L cap] w fun e w' => ∃ D', e = .returned (.agg D') ∧ DeltaOf D' o n x y (.slice a L cap) ∧ Below w.heap.size w w' := by
  obtain ⟨S, hS⟩ := start2 w (deltaO D) (deltaO zeroDel)
  have hz := zero_delta
  have hD2 := hD.set (.slice a L cap)
  have hinf := infoDelta hD2
  have hone := hD2.one rfl
  have hsz : zeroDel.size = (D.setIfInBounds 66 (.slice a L cap)).size := by rw [zeroDel_of.size, hD2.size]
  have c66 : S.w.cell? ⟨w.heap.size, 66, none⟩ = some s0 := (delta_held hD S w.heap.size (by simp)).2.2
  have f66 : S.w.frozen? ⟨w.heap.size, 66, none⟩ = false := free_of (S.blocks (w.heap.size, deltaO D) (by simp)) 66
  rw [← hS] at c66 f66
  have hg : ((w.alloc (deltaO (D.setIfInBounds 66 (.slice a L cap)))).alloc (deltaO zeroDel)).heap[w.heap.size]? = some (deltaO (D.setIfInBounds 66 (.slice a L cap))) := heap_old (heap_new w _ rfl) _
  have hg1 : ((w.alloc (deltaO (D.setIfInBounds 66 (.slice a L cap)))).alloc (deltaO zeroDel)).heap[w.heap.size + 1]? = some (deltaO zeroDel) := heap_new _ _ (by simp)
  have HB := Lib.hid (below2 w (deltaO (D.setIfInBounds 66 (.slice a L cap))) (deltaO zeroDel))
  have HD2 := Lib.hid hD2
  clear hD hD2 hS
  go_enter Try.func37, Try.ntmps37
  go_wp2_with (first
    | (refine wpList_load_row rfl 34 (.tmp 2) rfl w.heap.size rfl 34 _ (0, 0) _ hg Try.underlying34 rfl hinf ?_)
    | (refine wpList_store_rowTo rfl 34 (.tmp 4) (.tmp 7) rfl rfl (w.heap.size + 1) (D.setIfInBounds 66 (.slice a L cap)) rfl rfl 34 zeroDel hg1 hinf hsz hone ?_))
  refine bodyPost_ret (v := .agg (D.setIfInBounds 66 (.slice a L cap))) ?_ rfl ⟨_, rfl, HD2.out, ?_⟩
  · exact results_cell_row Try.results37 _ _ (w.heap.size + 1) 34 _ (0, 0) _ rfl (setRow_heap _ _ _ _ _ _ hg1) Try.underlying34 rfl hinf
  · exact below_setRow HB.out (by simp) _
end Go.Proofs.Ytgmjppjgbalapaa

namespace Go.Proofs.Ytgmjppjgbalapaa
open Go.RowKit Go.Shelf Go.Proofs.Ytgmjppjgbalapaa.Plain01
set_option linter.unusedVariables false
set_option linter.unusedSimpArgs false

abbrev rowC (R : Array Value) : Obj := .cells R 26 (0, 0)
def zeroCmd : Array Value := #[.int .i64 0, .int .i64 0, .int .i64 0, .int .i64 0, .slice none 0 0]
theorem make_cmds (k : Nat) (hk : k ≤ 1000000) (w : World) : (Instr.makeSlice 22 (.int .i64 (k : Int)) (.int .i64 (k : Int))).run Try.prog w = .ok (.slice (some ⟨w.heap.size, 0, none⟩) k k) (w.alloc (rowC (madeCells zeroCmd (k * 5)))) := by
  have hi : ∃ i, Try.prog.info? 26 = some i ∧ i.zero = some (.agg zeroCmd) ∧ i.size = 5 ∧ i.bytes = 56 := by
    have h : (Try.prog.info? 26).map (fun i => (i.zero, i.size, i.bytes)) = some (some (.agg zeroCmd), 5, 56) := by kernel_rfl
    obtain ⟨i, hi, he⟩ := Option.map_eq_some_iff.1 h
    simp only [Prod.mk.injEq] at he
    exact ⟨i, hi, he.1, he.2.1, he.2.2⟩
  obtain ⟨i, hi, hz, hs, hb⟩ := hi
  rw [run_make w 22 26 i _ Try.underlying22 hi hz .i64 .i64 k k (by omega) (by omega) (by rw [hb]; omega) (by omega)]
  rw [hs, Int.toNat_natCast]
  rfl

/-- A slice that stands away from the blocks below B. -/
def Apart (B : Nat) (a : Option Addr) : Prop := ∀ ad, a = some ad → B ≤ ad.block
theorem BytesIn.apart {w w' : World} {a : Option Addr} {l : List Int} {cap B : Nat} (h : BytesIn w a l cap) (ha : Apart B a) (hk : ∀ k, B ≤ k → k < w.heap.size → w'.heap[k]? = w.heap[k]?) : BytesIn w' a l cap :=
  ⟨h.len, h.capb, fun hp => by
    obtain ⟨b, o, rfl, hc⟩ := h.cells hp
    refine ⟨b, o, rfl, fun i hi => ?_⟩
    have h1 := hc i hi
    have hb := World.block_lt_of_cell? _ _ h1
    rw [World.cell?_of_block (w := w) (w' := w') (hk b (ha _ rfl) hb)]
    exact h1, h.nil⟩
theorem CmdOK.apart {w w' : World} {c : Cmd} {B : Nat} (h : CmdOK w c) (ha : Apart B c.a) (hk : ∀ k, B ≤ k → k < w.heap.size → w'.heap[k]? = w.heap[k]?) : CmdOK w' c := ⟨h.k, h.t, h.f, h.n, h.b.apart ha hk, h.o⟩

/-- The first commands lie in a row. -/
def RowHas (R : Array Value) (ds : List Cmd) : Prop := ∀ (i : Nat) (c : Cmd), ds[i]? = some c → ∀ (j : Nat) (u : Value), c.cells[j]? = some u → R[i * 5 + j]? = some u
/-- Five cells are written. -/
def put5A (R : Array Value) (p : Nat) (v0 v1 v2 v3 v4 : Value) : Array Value := ((((R.setIfInBounds p v0).setIfInBounds (p + 1) v1).setIfInBounds (p + 2) v2).setIfInBounds (p + 3) v3).setIfInBounds (p + 4) v4
theorem put5A_size (R : Array Value) (p : Nat) (v0 v1 v2 v3 v4 : Value) : (put5A R p v0 v1 v2 v3 v4).size = R.size := by simp [put5A]
theorem put5A_get (R : Array Value) (p : Nat) (v0 v1 v2 v3 v4 : Value) (hp : p + 5 ≤ R.size) (i : Nat) : (put5A R p v0 v1 v2 v3 v4)[i]? = if i = p then some v0 else if i = p + 1 then some v1 else if i = p + 2 then some v2 else if i = p + 3 then some v3 else if i = p + 4 then some v4 else R[i]? := by
  unfold put5A
  simp only [Array.getElem?_setIfInBounds, Array.size_setIfInBounds]
  by_cases h0 : i = p
  · subst h0; simp; omega
  · by_cases h1 : i = p + 1
    · subst h1; simp; omega
    · by_cases h2 : i = p + 2
      · subst h2; simp; omega
      · by_cases h3 : i = p + 3
        · subst h3; simp; omega
        · by_cases h4 : i = p + 4
          · subst h4; simp; omega
          · rw [if_neg (Ne.symm h4), if_neg (Ne.symm h3), if_neg (Ne.symm h2), if_neg (Ne.symm h1), if_neg (Ne.symm h0), if_neg h0, if_neg h1, if_neg h2, if_neg h3, if_neg h4]
theorem rowHas_snoc {R : Array Value} {ds : List Cmd} {d : Cmd} (h : RowHas R ds) (hp : ds.length * 5 + 5 ≤ R.size) : RowHas (put5A R (ds.length * 5) (.int .i64 d.k) (.int .i64 d.t) (.int .i64 d.f) (.int .i64 d.n) (.slice d.a d.l.length d.cap)) (ds ++ [d]) := by
  intro i c hc j u hu
  have hj : j < 5 := by have := (List.getElem?_eq_some_iff.1 hu).1; simpa [Cmd.cells] using this
  rw [put5A_get _ _ _ _ _ _ _ hp]
  by_cases hi : i < ds.length
  · rw [List.getElem?_append_left hi] at hc
    rw [if_neg (by omega), if_neg (by omega), if_neg (by omega), if_neg (by omega), if_neg (by omega)]
    exact h i c hc j u hu
  · have hil : i = ds.length := by
      have := (List.getElem?_eq_some_iff.1 hc).1
      simp at this; omega
    subst hil
    simp at hc
    subst hc
    match j, hj with
    | 0, _ => simp [Cmd.cells] at hu; subst hu; rw [if_pos (by omega)]
    | 1, _ => simp [Cmd.cells] at hu; subst hu; rw [if_neg (by omega), if_pos rfl]
    | 2, _ => simp [Cmd.cells] at hu; subst hu; rw [if_neg (by omega), if_neg (by omega), if_pos rfl]
    | 3, _ => simp [Cmd.cells] at hu; subst hu; rw [if_neg (by omega), if_neg (by omega), if_neg (by omega), if_pos rfl]
    | 4, _ => simp [Cmd.cells] at hu; subst hu; rw [if_neg (by omega), if_neg (by omega), if_neg (by omega), if_neg (by omega), if_pos rfl]

def WithPost (o n : Int) (x y : List Int) (cs : List Cmd) (w : World) (e : Ending) (w' : World) : Prop :=
  ∃ (D' : Array Value) (g : Nat) (ds : List Cmd), e = .returned (.agg D') ∧ DeltaOf D' o n x y (.slice (some ⟨g, 0, none⟩) ds.length ds.length) ∧ CmdsIn w' (some ⟨g, 0, none⟩) ds ds.length ∧ cores ds = cores cs ∧ Below w.heap.size w w'

/-- The same, and that the memory of the new ones is their own. -/
def WithPost2 (o n : Int) (x y : List Int) (cs : List Cmd) (w : World) (e : Ending) (w' : World) : Prop :=
  ∃ (D' : Array Value) (g : Nat) (ds : List Cmd), e = .returned (.agg D') ∧ DeltaOf D' o n x y (.slice (some ⟨g, 0, none⟩) ds.length ds.length) ∧ CmdsIn w' (some ⟨g, 0, none⟩) ds ds.length ∧ cores ds = cores cs ∧ Below w.heap.size w w' ∧ w.heap.size ≤ g ∧ ∀ c ∈ ds, Apart w.heap.size c.a

/-- Five stores into a listed row. -/
theorem HeldW.put5 {w0 : World} {g : Nat} {R : Array Value} {bs : List (Nat × Obj)} (s : HeldW w0 ((g, rowC R) :: bs)) (hb : w0.heap.size ≤ g) (hne : ∀ p ∈ bs, p.1 ≠ g) (p : Nat) (v0 v1 v2 v3 v4 : Value) :
    ∃ S : HeldW w0 ((g, rowC (put5A R p v0 v1 v2 v3 v4)) :: bs), ((((s.w.setCell ⟨g, p, none⟩ v0).setCell ⟨g, p + 1, none⟩ v1).setCell ⟨g, p + 2, none⟩ v2).setCell ⟨g, p + 3, none⟩ v3).setCell ⟨g, p + 4, none⟩ v4 = S.w :=
  ⟨((((s.store (i := p) (v := v0) hb hne rfl).store (i := p + 1) (v := v1) hb hne rfl).store (i := p + 2) (v := v2) hb hne rfl).store (i := p + 3) (v := v3) hb hne rfl).store (i := p + 4) (v := v4) hb hne rfl, rfl⟩
theorem put5_others (w : World) (g p : Nat) (v0 v1 v2 v3 v4 : Value) (k : Nat) (hk : k ≠ g) : (((((w.setCell ⟨g, p, none⟩ v0).setCell ⟨g, p + 1, none⟩ v1).setCell ⟨g, p + 2, none⟩ v2).setCell ⟨g, p + 3, none⟩ v3).setCell ⟨g, p + 4, none⟩ v4).heap[k]? = w.heap[k]? := by
  rw [Below.heap_setCell _ _ _ _ hk, Below.heap_setCell _ _ _ _ hk, Below.heap_setCell _ _ _ _ hk, Below.heap_setCell _ _ _ _ hk, Below.heap_setCell _ _ _ _ hk]
end Go.Proofs.Ytgmjppjgbalapaa

namespace Go.Proofs.Ytgmjppjgbalapaa
open Go.RowKit Go.Shelf Go.Proofs.Ytgmjppjgbalapaa.Plain01
set_option linter.unusedVariables false
set_option linter.unusedSimpArgs false

theorem own_apart {W : World} {base n C : Nat} {A : Option Addr} {xs : List Value} (h : W.ownsRow base 5 1 (.slice A n C) n xs) : Apart base A := fun ad had => by
  rcases h.2 with ⟨h1, _⟩ | ⟨g, cap, cur, h1, h2, _⟩
  · simp only [Value.slice.injEq] at h1
    rw [h1.1] at had; cases had
  · simp only [Value.slice.injEq] at h1
    rw [h1.1] at had; cases had; exact h2
theorem own_bytesIn {w1 W : World} {A : Option Addr} {C : Nat} {l : List Int} (hb : Below w1.heap.size w1 W) (h : W.ownsRow w1.heap.size 5 1 (.slice A l.length C) l.length (l.map (Value.int .u8))) : BytesIn W A l C := by
  obtain ⟨a, cap, e, hi⟩ := OwnW.bytes (w0 := w1) (e := 5) (v := .slice A l.length C) (l := l) ⟨W, hb, by rw [List.length_map]; exact h⟩
  simp only [Value.slice.injEq] at e
  obtain ⟨rfl, _, rfl⟩ := e
  exact hi

set_option maxRecDepth 100000 in
set_option maxHeartbeats 8000000 in
theorem dwith_any2 (D : Array Value) (o n : Int) (x y : List Int) (s0 : Value) (ca : Option Addr) (cs : List Cmd) (ccap : Nat) (hD : DeltaOf D o n x y s0) (w : World) (h : CmdsIn w ca cs ccap) (hL : cs.length ≤ 1000000) (hsm : ∀ c ∈ cs, c.l.length ≤ 1000000) :
    Calls Try.prog 46 #[.agg D, .slice ca cs.length ccap] w (WithPost2 o n x y cs w) := by
  have HC := Lib.hid h
  have HSM := Lib.hid hsm
  obtain ⟨L, hLe⟩ : ∃ L, L = cs.length := ⟨_, rfl⟩
  have HL := Lib.hid hLe
  have hLcap : L ≤ ccap := by rw [hLe]; exact h.len
  have hccap := h.capb
  have hmk := fun w => make_cmds L (by omega) w
  have hz := zero_delta
  rw [← hLe] at hL ⊢
  have hD2 := hD.set (.slice (some ⟨w.heap.size + 1 + 1, 0, none⟩) L L)
  have hinf := infoDelta hD2
  have hone := hD2.one rfl
  have hszD : zeroDel.size = (D.setIfInBounds 66 (.slice (some ⟨w.heap.size + 1 + 1, 0, none⟩) L L)).size := by rw [zeroDel_of.size, hD2.size]
  have hpost : Hid (∀ (D' : Array Value) (g : Nat) (ds : List Cmd) (w' : World), DeltaOf D' o n x y (.slice (some ⟨g, 0, none⟩) ds.length ds.length) → CmdsIn w' (some ⟨g, 0, none⟩) ds ds.length → cores ds = cores cs → Below w.heap.size w w' → w.heap.size ≤ g → (∀ c ∈ ds, Apart w.heap.size c.a) → WithPost2 o n x y cs w (.returned (.agg D')) w') := Lib.hid fun D' g ds w' h1 h2 h3 h4 h5 h6 => ⟨D', g, ds, rfl, h1, h2, h3, h4, h5, h6⟩
  have c66 : (((w.alloc (deltaO D)).alloc (deltaO zeroDel)).alloc (rowC (madeCells zeroCmd (L * 5)))).cell? ⟨w.heap.size, 66, none⟩ = some s0 := (cell_of (heap_old (heap_old (heap_new w (deltaO D) rfl) _) _) 66).trans hD.c66
  have f66 : (((w.alloc (deltaO D)).alloc (deltaO zeroDel)).alloc (rowC (madeCells zeroCmd (L * 5)))).frozen? ⟨w.heap.size, 66, none⟩ = false := free_of (heap_old (heap_old (heap_new w (deltaO D) rfl) _) _) 66
  have hrow0 : (madeCells zeroCmd (L * 5)).size = L * 5 := size_madeCells _ _
  have HD2 := Lib.hid hD2
  generalize WithPost2 o n x y cs w = POST at hpost ⊢
  clear hD h hsm hLe hD2
  go_enter Try.func46, Try.ntmps46
  go_wp2
  obtain ⟨S, hS⟩ := start3 w (deltaO (D.setIfInBounds 66 (.slice (some ⟨w.heap.size + 1 + 1, 0, none⟩) L L))) (deltaO zeroDel) (rowC (madeCells zeroCmd (L * 5)))
  have hSS : True := trivial
  clear c66 f66
  rw [hS]
  clear hS hmk hz
  have HR0 := Lib.hid hrow0
  generalize madeCells zeroCmd (L * 5) = R0 at S HR0 ⊢
  generalize D.setIfInBounds 66 (.slice (some ⟨w.heap.size + 1 + 1, 0, none⟩) L L) = D2 at *
  clear hrow0
  go_loopw [13] (fun v wr => ∃ k : Nat, k ≤ L ∧ v = .int .i64 k ∧ ∃ (ds : List Cmd) (R : Array Value), Hid (ds.length = k ∧ cores ds = cores (cs.take k) ∧ R.size = L * 5 ∧ RowHas R ds) ∧ ∃ s : HeldW w [(w.heap.size + 1 + 1, rowC R), (w.heap.size + 1, deltaO zeroDel), (w.heap.size, deltaO D2)], wr = s.w ∧ Hid (∀ d ∈ ds, CmdOK s.w d ∧ Apart (w.heap.size + 3) d.a)) (fun v _ => L - (intOf v).toNat)
  case atStart => exact ⟨0, by omega, rfl, [], R0, Lib.hid ⟨rfl, rfl, HR0.out, fun i c hc => by simp at hc⟩, S, rfl, Lib.hid (fun d hd => by simp at hd)⟩
  case round =>
    clear S
    obtain ⟨k, hk, rfl, ds, R, hds, s, rfl, hok⟩ := hrel
    by_cases hlt : k < L
    · obtain ⟨c, hc⟩ : ∃ c, cs[k]? = some c := ⟨_, List.getElem?_eq_getElem (by rw [← HL.out]; exact hlt)⟩
      have hcin := HC.out.W s
      have hcok := hcin.ok c (List.mem_of_getElem? hc)
      obtain ⟨b, oo, rfl, x0, x1, x2, x3, x4⟩ := hcin.at hc
      have HCK := Lib.hid hcok
      have HCC := Lib.hid hc
      have HLC := Lib.hid (HSM.out c (List.mem_of_getElem? hc))
      clear hcin hcok hc
      go_wp2_with fail
      obtain ⟨B, S2, hB, hB0, hlt2, hS⟩ := s.more1 (cmdO c.k c.t c.f c.n (.slice c.a c.l.length c.cap))
      have hBs : w.heap.size + 2 < B := by
        have := hlt2 (w.heap.size + 1 + 1, rowC R) (by simp)
        simpa using this
      have hbs : Below s.w.heap.size s.w S2.w := by rw [← hS]; exact (Below.refl _ _).alloc (Nat.le_refl _) _
      rw [hS, ← hB]
      have hszB : B < S2.w.heap.size := (Array.getElem?_eq_some_iff.1 (S2.blocks _ List.mem_cons_self)).1
      have hCK2 := HCK.out.below hbs
      have HB2 := Lib.hid hbs
      have HCK2 := Lib.hid hCK2
      have hd66 : ∀ W, Below S2.w.heap.size S2.w W → W.cell? ⟨w.heap.size, 66, none⟩ = some (.slice (some ⟨w.heap.size + 1 + 1, 0, none⟩) L L) := fun W hW => (cell_of (heap_below (S2.blocks (w.heap.size, deltaO D2) (by simp)) hW) 66).trans HD2.out.c66
      have hcb := cmd_later (S2.blocks (B, cmdO c.k c.t c.f c.n (.slice c.a c.l.length c.cap)) List.mem_cons_self)
      have H66 := Lib.hid hd66
      have HCB := Lib.hid hcb
      have HSZ := Lib.hid hszB
      have HBB := Lib.hid hBs
      clear hS hB hlt2 x0 x1 x2 x3 x4 hd66 hcb hbs hCK2 hszB hBs
      refine wp_region_looseT 6
        [IsV (.pointer (some ⟨w.heap.size, 66, none⟩)), IsV (.slice (some ⟨w.heap.size + 1 + 1, 0, none⟩) L L), IsV (.int .i64 k), IsV (cmdV c.k c.t c.f c.n (.slice c.a c.l.length c.cap)), IsOwn S2.w.heap.size (fun v => cmdV c.k c.t c.f c.n v) c.l, IsV (.pointer (some ⟨w.heap.size + 1 + 1, k * 5, none⟩))]
        [⟨18, [], [2]⟩, ⟨19, [(0, 18)], []⟩, ⟨20, [], [5]⟩, ⟨21, [], [6]⟩, ⟨22, [(3, 21)], []⟩, ⟨23, [(1, 19), (2, 20)], []⟩]
        (fun W => Below S2.w.heap.size S2.w W) (fun W W' => Below W.heap.size W W') (by kernel_rfl) (by kernel_rfl) (by kernel_rfl) rfl rfl (Below.refl _ S2.w).drew ?_
        ⟨?_, ?_, ?_, ?_, ?_, ?_, trivial⟩ ?_
      · repeat (first | (intro _ h; cases h; done) | refine List.forall_mem_cons.2 ⟨stable_V _ _, ?_⟩ | refine List.forall_mem_cons.2 ⟨stable_own _ _ _, ?_⟩)
      · intro A W hC hd hx
        have hk : ∀ v, A.eval (.const v) = v := fun _ => rfl
        have hy0 : A.eval (.tmp 2) = .pointer (some ⟨w.heap.size, 0, none⟩) := hx 2 (by simp)
        clear hd
        generalize A.eval = ρ at hk hy0 ⊢
        simp [go_sem, looseUpon, factOf, hk, hy0]
        exact ⟨hC, Below.refl _ _⟩
      · intro A W hC hd hx
        have hk : ∀ v, A.eval (.const v) = v := fun _ => rfl
        have c0 := H66.out W hC
        simp [factOf] at hd
        generalize A.eval = ρ at hd hk ⊢
        simp [go_sem, looseUpon, factOf, hd, hk, c0]
        exact ⟨hC, Below.refl _ _⟩
      · intro A W hC hd hx
        have hk : ∀ v, A.eval (.const v) = v := fun _ => rfl
        have hy0 : A.eval (.tmp 5) = .int .i64 k := hx 5 (by simp)
        clear hd
        generalize A.eval = ρ at hk hy0 ⊢
        simp [go_sem, looseUpon, factOf, hk, hy0]
        exact ⟨hC, Below.refl _ _⟩
      · intro A W hC hd hx
        have hk : ∀ v, A.eval (.const v) = v := fun _ => rfl
        have hy0 : A.eval (.tmp 6) = .pointer (some ⟨B, 0, none⟩) := hx 6 (by simp)
        have c0 := (HCB.out W hC).1
        have c1 := (HCB.out W hC).2.1
        have c2 := (HCB.out W hC).2.2.1
        have c3 := (HCB.out W hC).2.2.2.1
        have c4 := (HCB.out W hC).2.2.2.2
        clear hd
        generalize A.eval = ρ at hk hy0 ⊢
        simp [go_sem, looseUpon, factOf, hk, hy0, c0, c1, c2, c3, c4]
        exact ⟨hC, Below.refl _ _⟩
      · intro A' W hC hd hx
        refine ⟨fun g hg => (by cases hg), ?_⟩
        simp [factOf] at hd
        refine loose_call rfl Try.func30 (by kernel_rfl) (by kernel_rfl) ?_
        simp only [List.map_toArray, List.map_cons, List.map_nil, hd]
        refine (mclone_any c.k c.t c.f c.n c.l c.a c.cap W (HCK2.out.below hC).b HLC.out).mono ?_
        rintro e' W' ⟨v, rfl, t, rfl⟩
        refine ⟨_, rfl, ?_, hC.trans (t.below.mono hC.size), t.below⟩
        obtain ⟨A2, C2, rfl, _⟩ := t.bytes
        have ho := t.own
        simp only [List.length_map] at ho ⊢
        exact ⟨A2, C2, rfl, ho.mono hC.size⟩
      · intro A W hC hd hx
        have hk : ∀ v, A.eval (.const v) = v := fun _ => rfl
        have c0 := hlt
        simp [factOf] at hd
        generalize A.eval = ρ at hd hk ⊢
        simp [go_sem, looseUpon, factOf, hd, hk, c0]
        exact ⟨hC, Below.refl _ _⟩
      · intro W hC
        simp only [ends]
        rintro _ rfl _ rfl _ rfl _ rfl _ ⟨A', C', rfl, hown⟩ _ rfl
        simp only [putAll, List.zip_cons_cons, List.zip_nil_left, List.foldl_cons, List.foldl_nil, Act.put, List.setIfInBounds_toArray, List.set_cons_succ, List.set_cons_zero]
        obtain ⟨T0, hT0⟩ := S2.after hC
        obtain ⟨T, hT⟩ : ∃ T : HeldW w [(w.heap.size + 1 + 1, rowC R), (w.heap.size + 1, deltaO zeroDel), (w.heap.size, deltaO D2)], W = T.w := ⟨T0.sub (fun p hp => List.mem_cons_of_mem _ hp), hT0⟩
        have hR : T.w.heap[w.heap.size + 1 + 1]? = some (rowC R) := T.blocks _ List.mem_cons_self
        have hcell : ∀ i, i < 5 → ∃ u, T.w.cell? ⟨w.heap.size + 1 + 1, k * 5 + i, none⟩ = some u := fun i hi => by
          rw [cell_of hR]
          have : k * 5 + i < R.size := by rw [hds.out.2.2.1]; omega
          exact ⟨_, Array.getElem?_eq_getElem this⟩
        obtain ⟨u0, r0'⟩ := hcell 0 (by omega)
        have r0 : T.w.cell? ⟨w.heap.size + 1 + 1, k * 5, none⟩ = some u0 := r0'
        clear r0'
        obtain ⟨u1, r1⟩ := hcell 1 (by omega)
        obtain ⟨u2, r2⟩ := hcell 2 (by omega)
        obtain ⟨u3, r3⟩ := hcell 3 (by omega)
        obtain ⟨u4, r4⟩ := hcell 4 (by omega)
        have rf := fun i => free_of hR i
        have hbw : Below s.w.heap.size s.w W := HB2.out.trans (hC.mono HB2.out.size)
        have hdl := hds.out.1
        have hok2 : Hid (∀ d ∈ ds ++ [⟨c.k, c.t, c.f, c.n, c.l, A', C'⟩], CmdOK W d ∧ Apart (w.heap.size + 3) d.a) := Lib.hid fun d hd => by
          rcases List.mem_append.1 hd with hd | hd
          · exact ⟨(hok.out d hd).1.below hbw, (hok.out d hd).2⟩
          · simp only [List.mem_cons, List.not_mem_nil, or_false] at hd
            subst hd
            refine ⟨⟨HCK.out.k, HCK.out.t, HCK.out.f, HCK.out.n, own_bytesIn hC hown, HCK.out.o⟩, fun ad had => ?_⟩
            have := own_apart hown ad had
            have := HSZ.out
            have := HBB.out
            omega
        have hrow2 : Hid ((ds ++ [(⟨c.k, c.t, c.f, c.n, c.l, A', C'⟩ : Cmd)]).length = k + 1 ∧ cores (ds ++ [⟨c.k, c.t, c.f, c.n, c.l, A', C'⟩]) = cores (cs.take (k + 1)) ∧ (put5A R (k * 5) (.int .i64 c.k) (.int .i64 c.t) (.int .i64 c.f) (.int .i64 c.n) (.slice A' c.l.length C')).size = L * 5 ∧ RowHas (put5A R (k * 5) (.int .i64 c.k) (.int .i64 c.t) (.int .i64 c.f) (.int .i64 c.n) (.slice A' c.l.length C')) (ds ++ [⟨c.k, c.t, c.f, c.n, c.l, A', C'⟩])) := Lib.hid ⟨by simp [hdl], by
          rw [List.take_add_one, HCC.out]
          unfold cores at *
          rw [List.map_append, hds.out.2.1]
          simp, by rw [put5A_size]; exact hds.out.2.2.1, by
          have := rowHas_snoc (d := ⟨c.k, c.t, c.f, c.n, c.l, A', C'⟩) hds.out.2.2.2 (by rw [hdl, hds.out.2.2.1]; omega)
          rw [hdl] at this
          exact this⟩
        obtain ⟨S5, hS5⟩ := T.put5 (by omega) (by simp; omega) (k * 5) (.int .i64 c.k) (.int .i64 c.t) (.int .i64 c.f) (.int .i64 c.n) (.slice A' c.l.length C')
        have hok5 : Hid (∀ d ∈ ds ++ [⟨c.k, c.t, c.f, c.n, c.l, A', C'⟩], CmdOK S5.w d ∧ Apart (w.heap.size + 3) d.a) := Lib.hid fun d hd => by
          refine ⟨(hok2.out d hd).1.apart (hok2.out d hd).2 (fun j hj _ => ?_), (hok2.out d hd).2⟩
          rw [← hS5, hT]
          exact put5_others _ _ _ _ _ _ _ _ _ (by omega)
        have HS5 := Lib.hid hS5
        rw [hT]
        clear hcell hR hown hC hT0 hdl hS5 hbw
        go_wp2
        rw [HS5.out]
        go_roundw
        case rel => exact ⟨k + 1, by omega, by go_num, _, _, hrow2, S5, rfl, hok5⟩
        case measure => simp [intOf]; omega
    · obtain rfl : k = L := by omega
      have hg : s.w.heap[w.heap.size]? = some (deltaO D2) := s.blocks (w.heap.size, deltaO D2) (by simp)
      have hg1 : s.w.heap[w.heap.size + 1]? = some (deltaO zeroDel) := s.blocks (w.heap.size + 1, deltaO zeroDel) (by simp)
      have hgr : s.w.heap[w.heap.size + 1 + 1]? = some (rowC R) := s.blocks (w.heap.size + 1 + 1, rowC R) (by simp)
      have hoth : ∀ j, j ≠ w.heap.size + 1 → (s.w.setRow (w.heap.size + 1) D2).heap[j]? = s.w.heap[j]? := fun j hj => setRow_other _ _ _ _ hj
      have HP : Hid (POST (.returned (.agg D2)) (s.w.setRow (w.heap.size + 1) D2)) := Lib.hid (by
        refine hpost.out D2 (w.heap.size + 1 + 1) ds _ (by rw [hds.out.1]; exact HD2.out) ?_ (by rw [hds.out.2.1, HL.out, List.take_length]) (below_setRow s.below (by simp) _) (by omega) (fun c hc ad had => by have := (hok.out c hc).2 ad had; omega)
        refine ⟨Nat.le_refl _, by rw [hds.out.1]; omega, fun hp => ⟨_, 0, rfl, fun i c hc j u hu => ?_⟩, fun c hc => ?_, fun h => by cases h⟩
        · rw [Nat.zero_add, cell_of ((hoth _ (by omega)).trans hgr)]
          exact hds.out.2.2.2 i c hc j u hu
        · exact (hok.out c hc).1.apart (hok.out c hc).2 (fun j hj _ => hoth j (by omega)))
      clear hoth hgr
      go_wp2_with (first
        | (refine wpList_load_row rfl 34 (.tmp 2) rfl w.heap.size rfl 34 _ (0, 0) _ hg Try.underlying34 rfl hinf ?_)
        | (refine wpList_store_rowTo rfl 34 (.tmp 4) (.tmp 25) rfl rfl (w.heap.size + 1) D2 rfl rfl 34 zeroDel hg1 hinf hszD hone ?_))
      refine bodyPost_ret (v := .agg D2) ?_ rfl HP.out
      exact results_cell_row Try.results46 _ _ (w.heap.size + 1) 34 _ (0, 0) _ rfl (setRow_heap _ _ _ _ _ _ hg1) Try.underlying34 rfl hinf
theorem dwith_any (D : Array Value) (o n : Int) (x y : List Int) (s0 : Value) (ca : Option Addr) (cs : List Cmd) (ccap : Nat) (hD : DeltaOf D o n x y s0) (w : World) (h : CmdsIn w ca cs ccap) (hL : cs.length ≤ 1000000) (hsm : ∀ c ∈ cs, c.l.length ≤ 1000000) :
    Calls Try.prog 46 #[.agg D, .slice ca cs.length ccap] w (WithPost o n x y cs w) :=
  (dwith_any2 D o n x y s0 ca cs ccap hD w h hL hsm).mono fun _ _ ⟨D', g, ds, h1, h2, h3, h4, h5, _⟩ => ⟨D', g, ds, h1, h2, h3, h4, h5⟩
end Go.Proofs.Ytgmjppjgbalapaa

/- delta.Find; slices.IndexFunc over commands. -/
namespace Go.Proofs.Ytgmjppjgbalapaa
open Go.RowKit Go.Shelf Go.Proofs.Ytgmjppjgbalapaa.Plain01
set_option linter.unusedVariables false
set_option linter.unusedSimpArgs false

abbrev boxI (x : Int) : Obj := .cells #[.int .i64 x] 3 (0, 0)

set_option maxRecDepth 100000 in
set_option maxHeartbeats 4000000 in
theorem findC_any (B : Nat) (x : Int) (c : Cmd) (hok : okE c.tgt = true) (hk : c.k = 1 ∨ c.k = 2) (w : World) (hB : w.heap[B]? = some (boxI x)) :
    Calls Try.prog 65 #[cmdW c, .pointer (some ⟨B, 0, none⟩)] w (Gives (.bool (decide (c.has x))) w) := by
  have hT := mtarget_any c.k c.t c.f c.n hk c.a c.l.length c.cap
  have hE := end_gives c.tgt hok
  have e1 : extV (c.t, wlen c.k c.n c.l.length) = extV c.tgt := rfl
  rw [e1] at hT
  have e2 : decide (c.has x) = decide (c.tgt.1 ≤ x ∧ x < c.tgt.1 + c.tgt.2) := rfl
  rw [e2]
  have hBl := (Array.getElem?_eq_some_iff.1 hB).1
  obtain ⟨S, hS⟩ : ∃ S : HeldW w [(w.heap.size, cmdO c.k c.t c.f c.n (.slice c.a c.l.length c.cap)), (B, boxI x)], w.alloc (cmdO c.k c.t c.f c.n (.slice c.a c.l.length c.cap)) = S.w :=
    ⟨⟨_, (Below.refl _ w).alloc (Nat.le_refl _) _, all2 (heap_new w _ rfl) (heap_old hB _)⟩, rfl⟩
  generalize c.tgt = q at *
  clear e1 e2 hok hB
  have hcase : decide (q.1 ≤ x ∧ x < q.1 + q.2) = true ∧ decide (q.1 ≤ x) = true ∧ decide (x < q.1 + q.2) = true ∨ decide (q.1 ≤ x ∧ x < q.1 + q.2) = false ∧ decide (q.1 ≤ x) = true ∧ decide (x < q.1 + q.2) = false ∨ decide (q.1 ≤ x ∧ x < q.1 + q.2) = false ∧ decide (q.1 ≤ x) = false := by
    simp only [decide_eq_true_eq, decide_eq_false_iff_not]
    omega
  have HS := Lib.hid hS
  clear hS
  rcases hcase with ⟨hr, g1, g2⟩ | ⟨hr, g1, g2⟩ | ⟨hr, g1⟩
  all_goals
    rw [hr]
    clear hr
    go_enter Try.func65, Try.ntmps65
    go_wp2_with fail
    rw [HS.out]
    refine (HeldW.call (s := S) (hT _)).mono ?_
    rintro e _ ⟨rfl, s1, rfl⟩
    go_wp2_with fail
    obtain ⟨B2, S2, hB2, hB02, hlt, hS2⟩ := s1.more1 (extO q)
    rw [hS2, ← hB2]
    clear hS2 hB2 hlt
    have bx : ∀ s : HeldW w ((B2, extO q) :: [(w.heap.size, cmdO c.k c.t c.f c.n (.slice c.a c.l.length c.cap)), (B, boxI x)]), s.w.cell? ⟨B, 0, none⟩ = some (.int .i64 x) := fun s => cell_of (s.blocks (B, boxI x) (by simp)) 0
    refine wp_region_class _ _ (by kernel_rfl) (by kernel_rfl) (S2).below (S2).blocks (fun hne => ?_)
    obtain ⟨e0, e1⟩ := held_extA (S2) (B2) q (by simp)
    repeat (go_big_quiet_step ((go_at_call 63; exact HeldW.call (hE _))))
    refine wpQuiet_nil ?_
    rintro _ ⟨s3, rfl⟩
    clear hne e0 e1
    go_wp2_with fail
    go_ret
    exact ⟨rfl, s3.below⟩

set_option maxRecDepth 100000 in
set_option maxHeartbeats 4000000 in
theorem indexFunc_any (cb : Nat) (lb : Array Value) (ca : Option Addr) (cs : List Cmd) (ccap : Nat) (x : Int) (w : World) (h : CmdsIn w ca cs ccap) (eg : ∀ args w, (callFunc cb args).run Try.prog w = .ok (.enter cb args) w)
    (hf : ∀ (s : HeldW w []) (c : Cmd), c ∈ cs → Calls Try.prog cb (#[cmdW c] ++ lb) s.w (Gives (.bool (decide (c.has x))) s.w)) : Calls Try.prog 64 #[.slice ca cs.length ccap, .func (.func cb) #[] lb] w (Gives (.int .i64 (findOf cs x)) w) := by
  have hpost : Hid (∀ (r : Int) (s : HeldW w []), FindAt cs x r → Gives (.int .i64 (findOf cs x)) w (.returned (.int .i64 r)) s.w) := Lib.hid fun r s hr => by
    rw [findOf_eq hr]; exact ⟨rfl, s.below⟩
  have HC := Lib.hid h
  have HF := Lib.hid hf
  obtain ⟨L, hLe⟩ : ∃ L, L = cs.length := ⟨_, rfl⟩
  have HL := Lib.hid hLe
  have hLcap : L ≤ ccap := by rw [hLe]; exact h.len
  have hccap := h.capb
  rw [← hLe]
  generalize Gives (.int .i64 (findOf cs x)) w = POST at hpost ⊢
  clear h hf hLe
  go_enter Try.func64, Try.ntmps64
  go_wp2
  go_loopw [8] (fun v wr => ∃ k : Nat, k ≤ L ∧ v = .int .i64 k ∧ Hid (∀ (j : Nat) (d : Cmd), j < k → cs[j]? = some d → ¬ d.has x) ∧ ∃ s : HeldW w [], wr = s.w) (fun v _ => L - (intOf v).toNat)
  case atStart => exact ⟨0, by omega, rfl, Lib.hid (fun j d hj => by omega), HeldW.start w, rfl⟩
  case round =>
    obtain ⟨k, hk, rfl, hf, s, rfl⟩ := hrel
    by_cases hlt : k < L
    · obtain ⟨c, hc⟩ : ∃ c, cs[k]? = some c := ⟨_, List.getElem?_eq_getElem (by rw [← HL.out]; exact hlt)⟩
      obtain ⟨b, oo, rfl, x0, x1, x2, x3, x4⟩ := (HC.out.W s).at hc
      have hcc := HF.out s c (List.mem_of_getElem? hc)
      have HCC := Lib.hid hc
      clear hc
      by_cases hh : c.has x
      · have hT : Hid (FindAt cs x k) := Lib.hid ⟨fun h => by omega, fun _ => ⟨k, c, rfl, HCC.out, hh, hf.out⟩⟩
        rw [decide_eq_true hh] at hcc
        clear hh
        go_wp2_with (go_at_fn cb; refine (HeldW.call hcc).mono ?_; rintro e _ ⟨rfl, s2, rfl⟩)
        exact hpost.out _ s2 hT.out
      · have hstep : Hid (∀ (j : Nat) (d : Cmd), j < k + 1 → cs[j]? = some d → ¬ d.has x) := Lib.hid fun j d hj hd => by
          by_cases e : j = k
          · subst e; rw [HCC.out] at hd; cases hd; exact hh
          · exact hf.out j d (by omega) hd
        rw [decide_eq_false hh] at hcc
        clear hh
        go_wp2_with (go_at_fn cb; refine (HeldW.call hcc).mono ?_; rintro e _ ⟨rfl, s2, rfl⟩)
        go_roundw
        case rel => exact ⟨k + 1, by omega, by go_num, hstep, s2, rfl⟩
        case measure => simp [intOf]; omega
    · obtain rfl : k = L := by omega
      have hT : Hid (FindAt cs x (-1)) := Lib.hid ⟨fun _ c hc => by
        obtain ⟨j, hj⟩ := List.getElem?_of_mem hc
        exact hf.out j c (by rw [HL.out]; exact (List.getElem?_eq_some_iff.1 hj).1) hj, fun h => absurd rfl h⟩
      go_wp2
      exact hpost.out _ s hT.out

set_option maxRecDepth 100000 in
set_option maxHeartbeats 4000000 in
theorem dfind_any (D : Array Value) (o n : Int) (xx y : List Int) (ca : Option Addr) (cs : List Cmd) (ccap : Nat) (hD : DeltaOf D o n xx y (.slice ca cs.length ccap)) (x : Int) (w : World) (h : CmdsIn w ca cs ccap) (hok : ∀ c ∈ cs, okE c.tgt = true ∧ (c.k = 1 ∨ c.k = 2)) :
    Calls Try.prog 49 #[.agg D, .int .i64 x] w (Gives (.int .i64 (findOf cs x)) w) := by
  obtain ⟨S, hS⟩ := start2 w (deltaO D) (boxI x)
  have hi := indexFunc_any 65 #[.pointer (some ⟨w.heap.size + 1, 0, none⟩)] ca cs ccap x S.w (h.W S) (enters_of Try.func65 (by kernel_rfl) rfl)
    (fun s c hc => findC_any (w.heap.size + 1) x c (hok c hc).1 (hok c hc).2 s.w (heap_below (S.blocks (w.heap.size + 1, boxI x) (by simp)) s.below))
  have d2 := (delta_held hD S w.heap.size (by simp)).2.2
  generalize findOf cs x = r at hi ⊢
  generalize cs.length = L at hi d2
  rw [← hS] at d2
  have HS := Lib.hid hS
  clear hD h hok hS
  go_enter Try.func49, Try.ntmps49
  go_wp2_with fail
  rw [HS.out]
  clear d2
  refine (HeldW.call hi).mono ?_
  rintro e _ ⟨rfl, s2, rfl⟩
  go_wp2
  go_ret
  exact ⟨rfl, s2.below⟩
end Go.Proofs.Ytgmjppjgbalapaa
