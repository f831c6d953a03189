import Derived.Deep.AppendSrc
import Derived.Deep.Upon
import Derived.Test.YtdedfjkenbaebaaGreatDoorE08v12
import Derived.Test.YtdedfjkenbaebaaGreatDoorE08v13
import Derived.Test.YtdedfjkenbaebaaGreatDoorE08v18
import Derived.BigQuiet
import Derived.LoopTactic
import Derived.Test.YtdedfjkenbaebaaGreatDoorE08v16
/- Rows of commands that a call makes and appends to. -/
namespace Go.Proofs.YtdedfjkenbaebaaGreatDoor
open Go.RowKit Go.Shelf Go.Proofs.YtdedfjkenbaebaaGreatDoor.Plain01
set_option linter.unusedVariables false
set_option linter.unusedSimpArgs false

/-- The cells of commands, one behind the other. -/
def flat5 (cs : List Cmd) : List Value := cs.flatMap Cmd.cells
theorem flat5_length (cs : List Cmd) : (flat5 cs).length = cs.length * 5 := by
  unfold flat5
  induction cs with
  | nil => rfl
  | cons c cs ih => rw [List.flatMap_cons, List.length_append, ih]; simp [Cmd.cells]; omega
theorem flat5_append (cs ds : List Cmd) : flat5 (cs ++ ds) = flat5 cs ++ flat5 ds := by unfold flat5; rw [List.flatMap_append]
theorem flat5_get : ∀ (cs : List Cmd) (q : Nat) (u : Value), (flat5 cs)[q]? = some u → ∃ c, cs[q / 5]? = some c ∧ c.cells[q % 5]? = some u := by
  intro cs
  induction cs with
  | nil => intro q u h; simp [flat5] at h
  | cons c cs ih =>
    intro q u h
    have hl : c.cells.length = 5 := rfl
    have e : flat5 (c :: cs) = c.cells ++ flat5 cs := rfl
    rw [e] at h
    by_cases hq : q < 5
    · rw [List.getElem?_append_left (by omega)] at h
      exact ⟨c, by rw [show q / 5 = 0 by omega]; rfl, by rwa [show q % 5 = q by omega]⟩
    · rw [List.getElem?_append_right (by omega), hl] at h
      obtain ⟨d, h1, h2⟩ := ih _ _ h
      refine ⟨d, ?_, by rwa [show (q - 5) % 5 = q % 5 by omega] at h2⟩
      rw [show q / 5 = (q - 5) / 5 + 1 by omega]
      exact h1
theorem flat5_put : ∀ (cs : List Cmd) (i j : Nat) (c : Cmd) (u : Value), cs[i]? = some c → c.cells[j]? = some u → (flat5 cs)[i * 5 + j]? = some u := by
  intro cs
  induction cs with
  | nil => intro i j c u h; simp at h
  | cons d cs ih =>
    intro i j c u hc hu
    have hj : j < 5 := by simpa [Cmd.cells] using (List.getElem?_eq_some_iff.1 hu).1
    have hl : d.cells.length = 5 := rfl
    have e : flat5 (d :: cs) = d.cells ++ flat5 cs := rfl
    rw [e]
    cases i with
    | zero =>
      cases hc
      rw [List.getElem?_append_left (by omega), Nat.zero_mul, Nat.zero_add]
      exact hu
    | succ i =>
      rw [List.getElem?_append_right (by omega), hl, show (i + 1) * 5 + j - 5 = i * 5 + j by omega]
      exact ih i j c u hc hu
theorem flat5_one (cs : List Cmd) : ∀ u ∈ flat5 cs, u.oneCell' = true := fun u hu => by
  unfold flat5 at hu
  obtain ⟨c, _, hc⟩ := List.mem_flatMap.1 hu
  simp only [Cmd.cells, List.mem_cons, List.not_mem_nil, or_false] at hc
  rcases hc with rfl | rfl | rfl | rfl | rfl <;> rfl

theorem elem5 : ∃ E : ElemS Tryz.prog 25 62 5, E.bytes = 56 := by
  have h : (Tryz.prog.info? 62).map (fun i => (i.zero, i.size, i.bytes)) = some (some (.agg zeroCmd), 5, 56) := by kernel_rfl
  obtain ⟨i, hi, he⟩ := Option.map_eq_some_iff.1 h
  simp only [Prod.mk.injEq] at he
  exact ⟨⟨i, .agg zeroCmd, 56, Tryz.underlying25, hi, he.1, he.2.1, he.2.2, rfl, by omega⟩, rfl⟩

/-- Commands in a row of the call's own. -/
def IsRow (base n : Nat) (xs : List Value) : Value → World → Prop := fun v w => w.ownsRow base 62 5 v n xs
theorem stable_row (base n : Nat) (xs : List Value) : Stable (fun W W' => Below W.heap.size W W') (IsRow base n xs) := fun v w w' h hE => own_later h hE
/-- A new row without room. -/
def IsE5 (base : Nat) : Value → World → Prop := fun v w => ∃ g, v = .slice (some ⟨g, 0, none⟩) 0 0 ∧ w.ownsRow base 62 5 v 0 []
theorem stable_E5 (base : Nat) : Stable (fun W W' => Below W.heap.size W W') (IsE5 base) := fun v w w' ⟨g, h1, h2⟩ hE => ⟨g, h1, own_later h2 hE⟩
theorem isE5_new {W : World} {base : Nat} (hb : base ≤ W.heap.size) : IsE5 base (.slice (some ⟨W.heap.size, 0, none⟩) 0 0) (W.alloc (.cells #[] 62)) :=
  ⟨W.heap.size, rfl, rfl, .inr ⟨W.heap.size, 0, #[], rfl, hb, heap_new W _ rfl, Nat.le_refl _, by unfold maxLen; omega, rfl, rfl⟩⟩
/-- A new row of one command. -/
def IsOne5 (c : Cmd) : Value → World → Prop := fun v w => ∃ B, v = .slice (some ⟨B, 0, none⟩) 1 1 ∧ w.heap[B]? = some (.cells c.cells.toArray 62 (0, 0))
theorem stable_One5 (c : Cmd) : Stable (fun W W' => Below W.heap.size W W') (IsOne5 c) := fun v w w' ⟨B, h1, h2⟩ hE => ⟨B, h1, (hE.block _ (Array.getElem?_eq_some_iff.1 h2).1).trans h2⟩

/-- An append to it. -/
theorem run_append_fresh5 {W : World} {base : Nat} (hbase : base ≤ W.heap.size) {v : Value} (hv : IsE5 base v W) (ad : Addr) (m c : Nat) (news : List Value) (hl : news.length = m * 5) (hnews : ∀ j u, news[j]? = some u → W.cell? (ad.add j) = some u) (h1 : ∀ u ∈ news, u.oneCell' = true) (hm : m ≤ 1000000) (ty : TypeId) :
    ∃ v' W', (Builtin.append_ #[25, 25] ty #[v, .slice (some ad) m c]).run Tryz.prog W = .ok v' W' ∧ IsRow base m news v' W' ∧ Below W.heap.size W W' := by
  obtain ⟨E, hE⟩ := elem5
  obtain ⟨g, rfl, ho⟩ := hv
  have hsrc := _root_.Go.Src.ofSlice (P := Tryz.prog) W (size := E.i.size) (tx := 25) Tryz.underlying25 ad m c news (by rw [E.hsize, hl]) hnews h1
  by_cases h0 : m = 0
  · subst h0
    obtain rfl := List.eq_nil_of_length_eq_zero (by omega)
    exact ⟨_, _, run_append_nothing (P := Tryz.prog) W 25 25 ty 62 E.i E.ht E.hi _ 0 0 (Nat.le_refl _) _ hsrc, ho, Below.refl _ _⟩
  · have hold : (Builtin.firstCells E.i.size 0 (.slice (some ⟨g, 0, none⟩) 0 0)).run Tryz.prog W.drew = .ok ([] : List Value).toArray W.drew :=
      run_firstCells_some W.drew E.i.size 0 ⟨g, 0, none⟩ 0 0 [] (by simp) (fun j v hj => by simp at hj)
    have hrun := run_append_grow_src (P := Tryz.prog) W 25 25 ty 62 E.i E.z E.ht E.hi E.hz (some ⟨g, 0, none⟩) 0 0 [] hold _ m _ hsrc (by omega) (by omega) (growslice_fits (by omega) (by rw [E.hby, hE]; omega))
    rw [Nat.zero_add] at hrun
    have hG := grownCap_ge W m 0 62
    have hG2 := grownCap_le_maxLen W m 0 62 (by unfold maxLen; omega)
    generalize grownCap W m 0 62 = G at hrun hG hG2
    refine ⟨_, _, hrun, ⟨hl, .inr ⟨W.heap.size, G, _, rfl, hbase, heap_alloc_new W.drew _, hG, hG2, ?_, ?_⟩⟩, (Below.refl _ W).drew.alloc (Nat.le_refl _) _⟩
    · simp only [List.nil_append, Array.size_append, List.size_toArray, size_zeroCells, E.hzs, hl]
      omega
    · simp only [List.nil_append, Array.toList_append]
      rw [← hl]
      exact List.take_left

/-- A row that is the call's own is a slice of commands. -/
theorem row_cmds {W : World} {base n : Nat} {v : Value} {cs : List Cmd} (h : W.ownsRow base 62 5 v n (flat5 cs)) (hn : n = cs.length) (hok : ∀ c ∈ cs, CmdOK W c) : ∃ (a : Option Addr) (cap : Nat), v = .slice a cs.length cap ∧ CmdsIn W a cs cap := by
  subst hn
  rcases h.2 with ⟨rfl, h0⟩ | ⟨g, cap, cur, rfl, hb, hg, hc1, hc2, hsz, htk⟩
  · have : cs = [] := List.eq_nil_of_length_eq_zero h0
    subst this
    exact ⟨none, 0, rfl, ⟨by simp, by omega, fun h => by simp at h, hok, fun _ => rfl⟩⟩
  · refine ⟨_, cap, rfl, ⟨hc1, by unfold maxLen at hc2; omega, fun _ => ⟨g, 0, rfl, fun i c hc j u hu => ?_⟩, hok, fun h => by cases h⟩⟩
    have h5 := flat5_put cs i j c u hc hu
    rw [← htk, List.getElem?_take] at h5
    split at h5
    · rw [Nat.zero_add, cell_of hg]
      simpa using h5
    · cases h5
/-- The cells of some of the commands that came in. -/
theorem cmds_news {W : World} {b o cap : Nat} {cs : List Cmd} (h : CmdsIn W (some ⟨b, o, none⟩) cs cap) (i m : Nat) (hi : i + m ≤ cs.length) : ∀ (j : Nat) (u : Value), (flat5 ((cs.drop i).take m))[j]? = some u → W.cell? ((⟨b, o + i * 5, none⟩ : Addr).add j) = some u := fun j u hu => by
  obtain ⟨c, hc, hcu⟩ := flat5_get _ _ _ hu
  rw [List.getElem?_take] at hc
  split at hc
  · rw [List.getElem?_drop] at hc
    obtain ⟨b', o', e, hcell⟩ := h.cells (by have := (List.getElem?_eq_some_iff.1 hc).1; omega)
    simp only [Option.some.injEq, Addr.mk.injEq] at e
    obtain ⟨rfl, rfl, _⟩ := e
    have := hcell _ c hc _ u hcu
    rw [Addr.add_mid, ← this]
    congr 2
    omega
  · cases hc
/-- A delta with such commands, in memory of its own. -/
def IsDel (o n : Int) (x y : List Int) (cs : List Cmd) : Value → World → Prop := fun v w => ∃ (D : Array Value) (g : Nat) (es : List Cmd), v = .agg D ∧ DeltaOf D o n x y (.slice (some ⟨g, 0, none⟩) es.length es.length) ∧ CmdsIn w (some ⟨g, 0, none⟩) es es.length ∧ cores es = cores cs
theorem stable_del (o n : Int) (x y : List Int) (cs : List Cmd) : Stable (fun W W' => Below W.heap.size W W') (IsDel o n x y cs) := fun v w w' ⟨D, g, es, h1, h2, h3, h4⟩ hE => ⟨D, g, es, h1, h2, h3.below hE, h4⟩
theorem size_cmd (w : World) : (sizeOf (Tryz.prog.elem 25)).run Tryz.prog w = .ok 5 w := by kernel_rfl
/-- The first n of them; those behind. -/
theorem cut5_h {b o L cap : Nat} (n : Nat) (hn : n ≤ L) (hL : 0 < L) (hc : L ≤ cap) : ∀ W, (Instr.slice 25 (.slice (some ⟨b, o, none⟩) L cap) none (some (.int .i64 (n : Int))) none).run Tryz.prog W = .ok (.slice (some ⟨b, o, none⟩) n cap) W := fun W => by
  rw [run_slice_h (P := Tryz.prog) W 25 _ L cap (by kernel_rfl) .i64 (n : Int) (by omega) (by omega), size_cmd]
  simp only [Result.andThen_ok, sliced, Int.toNat_natCast, Nat.sub_zero]
  rw [if_neg (by omega)]
  simp [Addr.add_mid]
theorem cut5_l {b o L cap : Nat} (n : Nat) (hn : n ≤ L) (hc : L ≤ cap) : ∃ A : Addr, (∀ W, (Instr.slice 25 (.slice (some ⟨b, o, none⟩) L cap) (some (.int .i64 (n : Int))) none none).run Tryz.prog W = .ok (.slice (some A) (L - n) (cap - n)) W) ∧ (n < L → A = ⟨b, o + n * 5, none⟩) := by
  refine ⟨if cap = n then ⟨b, o, none⟩ else (⟨b, o, none⟩ : Addr).add (n * 5), fun W => ?_, fun h => ?_⟩
  · rw [run_slice_l (P := Tryz.prog) W 25 _ L cap (by kernel_rfl) .i64 (n : Int) (by omega) (by omega), size_cmd]
    simp only [Result.andThen_ok, sliced, Int.toNat_natCast]
    split <;> rfl
  · rw [if_neg (by omega), Addr.add_mid]
end Go.Proofs.YtdedfjkenbaebaaGreatDoor

/- Sort of the reference: an insertion, with three appends. -/
namespace Go.Proofs.YtdedfjkenbaebaaGreatDoor
open Go.RowKit Go.Shelf Go.Proofs.YtdedfjkenbaebaaGreatDoor.Plain01
set_option linter.unusedVariables false
set_option linter.unusedSimpArgs false

/-- Rows with those cells keep them. -/
def ExtR (base at_ : Nat) (X Y : List Value) (W W' : World) : Prop := ∀ v n xs, (n = 0 ∧ xs = [] ∨ n = at_ ∧ xs = X ∨ n = 1 ∧ xs = Y ∨ n = at_ + 1 ∧ xs = X ++ Y) → W.ownsRow base 62 5 v n xs → W'.ownsRow base 62 5 v n xs
theorem extR_below {base at_ : Nat} {X Y : List Value} {W W' : World} (h : Below W.heap.size W W') : ExtR base at_ X Y W W' := fun v n xs _ ho => own_later ho h

theorem append_ext {W0 W : World} (hC : Below W0.heap.size W0 W) {at_ : Nat} {X Y : List Value} {v : Value} (hv : W.ownsRow W0.heap.size 62 5 v at_ X) (ad : Addr) (c : Nat) (hY : Y.length = 1 * 5) (hnews : ∀ j u, Y[j]? = some u → W.cell? (ad.add j) = some u) (h1 : ∀ u ∈ Y, u.oneCell' = true) (hm : at_ ≤ 1000000) (ty : TypeId) :
    ∃ v' W', (Builtin.append_ #[25, 25] ty #[v, .slice (some ad) 1 c]).run Tryz.prog W = .ok v' W' ∧ W'.ownsRow W0.heap.size 62 5 v' (at_ + 1) (X ++ Y) ∧ Below W0.heap.size W0 W' ∧ ExtR W0.heap.size at_ X Y W W' := by
  obtain ⟨E, hE⟩ := elem5
  obtain ⟨v', W', hrun, ho, hg, _⟩ := run_append_own (P := Tryz.prog) W W0.heap.size 25 ty 62 E.i E.z 5 E.bytes E.ht E.hi E.hz E.hsize E.hby E.hzs E.hsz v at_ X hv ad 1 c Y hY hnews h1 (by unfold maxLen; omega) (by rw [hE]; omega) hC.size
  refine ⟨v', W', hrun, ho, hC.grown hg hC.size (fun k hk => (hv.lt k hk).1), ?_⟩
  rcases hv.2 with ⟨rfl, h0⟩ | ⟨g, cap, cur, rfl, hbg, hgc, hnc, hcm, hcs, htake⟩
  · exact extR_below ((Below.refl _ W).grown hg (Nat.le_refl _) (fun k hk => by cases hk))
  · by_cases hroom : at_ + 1 ≤ cap
    · have hl1 : Y.length = 1 * E.i.size := by rw [E.hsize, hY]
      have hr := run_append_room (P := Tryz.prog) W 25 ty 62 E.i E.ht E.hi g at_ cap cur hgc ad 1 c Y hl1 hnews h1 hroom (by rw [hl1, hcs, E.hsize, ← Nat.add_mul]; exact Nat.mul_le_mul_right _ hroom)
      rw [hr] at hrun
      injection hrun with h2 h3
      subst h3
      rw [E.hsize]
      intro u n xs hn hu
      refine ⟨hu.1, ?_⟩
      rcases hu.2 with h | ⟨g2, cap2, cur2, e1, e2, e3, e4, e5, e6, e7⟩
      · exact .inl h
      · right
        by_cases hgg : g2 = g
        · subst hgg
          obtain ⟨rfl, _⟩ : cur2 = cur ∧ True := by
            rw [hgc] at e3
            simp only [Option.some.injEq, Obj.cells.injEq] at e3
            exact ⟨e3.1.symm, trivial⟩
          have hxl : X.length = at_ * 5 := hv.1
          have hcl : cur2.toList.length = cap2 * 5 := by simpa using e6
          have hcc : cap2 = cap := by omega
          refine ⟨g2, cap2, _, e1, e2, setRow_heap _ _ _ _ _ _ e3, e4, e5, ?_, ?_⟩
          · simp only [List.size_toArray, List.length_append, List.length_take, List.length_drop, hY, hcl]
            omega
          · simp only [htake]
            rcases hn with ⟨rfl, rfl⟩ | ⟨rfl, rfl⟩ | ⟨rfl, rfl⟩ | ⟨rfl, rfl⟩
            · simp
            · rw [List.append_assoc, ← hxl, List.take_left]
            · by_cases ha : at_ = 0
              · subst ha
                have : X = [] := List.eq_nil_of_length_eq_zero (by omega)
                subst this
                rw [List.nil_append, ← hY, List.take_left]
              · rw [List.append_assoc, List.take_append_of_le_length (by omega), ← htake, List.take_take, Nat.min_eq_left (by omega)]
                exact e7
            · have : (at_ + 1) * 5 = (X ++ Y).length := by rw [List.length_append, hxl, hY]; omega
              rw [this, List.take_left]
        · exact ⟨g2, cap2, cur2, e1, e2, (setRow_other _ _ _ _ hgg).trans e3, e4, e5, e6, e7⟩
    · refine extR_below ?_
      have hl1 : Y.length = 1 * E.i.size := by rw [E.hsize, hY]
      have hr := run_append_grow (P := Tryz.prog) W 25 ty 62 E.i E.z E.ht E.hi E.hz ⟨g, 0, none⟩ at_ cap X (by rw [E.hsize]; exact hv.1) (hv.cells (g := g) rfl) ad 1 c Y hl1 hnews (by omega) (by omega) (growslice_fits (by omega) (by rw [E.hby, hE]; omega))
      rw [hr] at hrun
      injection hrun with h2 h3
      subst h3
      exact (Below.refl _ W).drew.alloc (Nat.le_refl _) _

/-- The same of a slice that may be nil. -/
theorem run_append_freshO {W : World} {base : Nat} (hbase : base ≤ W.heap.size) {v : Value} (hv : IsE5 base v W) (sp : Option Addr) (m c : Nat) (news : List Value) (hl : news.length = m * 5) (hnil : sp = none → m = 0) (hnews : ∀ ad, sp = some ad → ∀ j u, news[j]? = some u → W.cell? (ad.add j) = some u) (h1 : ∀ u ∈ news, u.oneCell' = true) (hm : m ≤ 1000000) (ty : TypeId) :
    ∃ v' W', (Builtin.append_ #[25, 25] ty #[v, .slice sp m c]).run Tryz.prog W = .ok v' W' ∧ IsRow base m news v' W' ∧ Below W.heap.size W W' := by
  cases sp with
  | some ad => exact run_append_fresh5 hbase hv ad m c news hl (hnews ad rfl) h1 hm ty
  | none =>
    obtain ⟨E, hE⟩ := elem5
    obtain ⟨g, rfl, ho⟩ := hv
    have hm0 := hnil rfl
    subst hm0
    obtain rfl := List.eq_nil_of_length_eq_zero (by omega)
    exact ⟨_, _, run_append_nothing (P := Tryz.prog) W 25 25 ty 62 E.i E.ht E.hi _ 0 0 (Nat.le_refl _) _ (_root_.Go.Src.ofNil (P := Tryz.prog) (w := W) (size := E.i.size) Tryz.underlying25 c), ho, Below.refl _ _⟩
theorem cutO_h {a : Option Addr} {L cap : Nat} (n : Nat) (hn : n ≤ L) (hc : L ≤ cap) (hnil : a = none → cap = 0) : ∃ A, (∀ W, (Instr.slice 25 (.slice a L cap) none (some (.int .i64 (n : Int))) none).run Tryz.prog W = .ok (.slice A n cap) W) ∧ (A = none → n = 0 ∧ cap = 0) ∧ ∀ b o, a = some ⟨b, o, none⟩ → A = some ⟨b, o, none⟩ := by
  refine ⟨if cap = 0 then a else a.map (·.add (0 * 5)), fun W => ?_, fun h => ?_, fun b o h => ?_⟩
  · rw [run_slice_h (P := Tryz.prog) W 25 a L cap (by kernel_rfl) .i64 (n : Int) (by omega) (by omega), size_cmd]
    simp only [Result.andThen_ok, sliced, Int.toNat_natCast, Nat.sub_zero]
  · by_cases h0 : cap = 0
    · omega
    · rw [if_neg h0] at h
      cases a with
      | none => have := hnil rfl; omega
      | some ad => cases h
  · subst h
    split <;> simp [Addr.add_mid]
theorem cutO_l {a : Option Addr} {L cap : Nat} (n : Nat) (hn : n ≤ L) (hc : L ≤ cap) (hnil : a = none → cap = 0) : ∃ A, (∀ W, (Instr.slice 25 (.slice a L cap) (some (.int .i64 (n : Int))) none none).run Tryz.prog W = .ok (.slice A (L - n) (cap - n)) W) ∧ (A = none → L - n = 0 ∧ cap - n = 0) ∧ ∀ b o, a = some ⟨b, o, none⟩ → n < L → A = some ⟨b, o + n * 5, none⟩ := by
  refine ⟨if cap = n then a else a.map (·.add (n * 5)), fun W => ?_, fun h => ?_, fun b o h hl => ?_⟩
  · rw [run_slice_l (P := Tryz.prog) W 25 a L cap (by kernel_rfl) .i64 (n : Int) (by omega) (by omega), size_cmd]
    simp only [Result.andThen_ok, sliced, Int.toNat_natCast]
  · by_cases h0 : cap = n
    · omega
    · rw [if_neg h0] at h
      cases a with
      | none => have := hnil rfl; omega
      | some ad => cases h
  · subst h
    rw [if_neg (by omega)]
    simp [Addr.add_mid]
theorem newsO_h {W : World} {a : Option Addr} {cap : Nat} {cs : List Cmd} (h : CmdsIn W a cs cap) {A : Option Addr} {n : Nat} (hn : n ≤ cs.length) (hA : ∀ b o, a = some ⟨b, o, none⟩ → A = some ⟨b, o, none⟩) : ∀ ad, A = some ad → ∀ (j : Nat) (u : Value), (flat5 (cs.take n))[j]? = some u → W.cell? (ad.add j) = some u := fun ad had j u hu => by
  by_cases h0 : 0 < cs.length
  · obtain ⟨b, o, ha, _⟩ := h.cells h0
    have := hA b o ha
    rw [had] at this
    cases this
    subst ha
    have := cmds_news h 0 n (by omega) j u (by simpa using hu)
    simpa using this
  · have : cs = [] := List.eq_nil_of_length_eq_zero (by omega)
    subst this
    simp [flat5] at hu
theorem newsO_l {W : World} {a : Option Addr} {cap : Nat} {cs : List Cmd} (h : CmdsIn W a cs cap) {A : Option Addr} {n : Nat} (hA : ∀ b o, a = some ⟨b, o, none⟩ → n < cs.length → A = some ⟨b, o + n * 5, none⟩) : ∀ ad, A = some ad → ∀ (j : Nat) (u : Value), (flat5 (cs.drop n))[j]? = some u → W.cell? (ad.add j) = some u := fun ad had j u hu => by
  by_cases h0 : n < cs.length
  · obtain ⟨b, o, ha, _⟩ := h.cells (by omega)
    have := hA b o ha h0
    rw [had] at this
    cases this
    subst ha
    refine cmds_news h n (cs.length - n) (by omega) j u ?_
    rw [List.take_of_length_le (by rw [List.length_drop]; omega)]
    exact hu
  · rw [List.drop_of_length_le (by omega)] at hu
    simp [flat5] at hu
/-- A literal of one command, as a row. -/
def IsLit (base : Nat) (c : Cmd) : Value → World → Prop := fun v w => ∃ B, v = .slice (some ⟨B, 0, none⟩) 1 1 ∧ w.ownsRow base 62 5 v 1 c.cells
theorem isLit_new {W : World} {base : Nat} (hb : base ≤ W.heap.size) (c : Cmd) : IsLit base c (.slice (some ⟨W.heap.size, 0, none⟩) 1 1) (W.alloc (.cells c.cells.toArray 62)) :=
  ⟨W.heap.size, rfl, rfl, .inr ⟨W.heap.size, 1, _, rfl, hb, heap_new W _ rfl, Nat.le_refl _, by unfold maxLen; omega, rfl, rfl⟩⟩

theorem stable_E5x (base j : Nat) (X Y : List Value) : Stable (ExtR base j X Y) (IsE5 base) := fun v w w' ⟨g, h1, h2⟩ hE => ⟨g, h1, hE _ 0 [] (.inl ⟨rfl, rfl⟩) h2⟩
theorem stable_rowx (base j : Nat) (X Y : List Value) : Stable (ExtR base j X Y) (IsRow base j X) := fun v w w' h hE => hE _ _ _ (.inr (.inl ⟨rfl, rfl⟩)) h
theorem stable_rowy (base j : Nat) (X Y : List Value) : Stable (ExtR base j X Y) (IsRow base (j + 1) (X ++ Y)) := fun v w w' h hE => hE _ _ _ (.inr (.inr (.inr ⟨rfl, rfl⟩))) h
theorem stable_lit (base j : Nat) (X : List Value) (c : Cmd) : Stable (ExtR base j X c.cells) (IsLit base c) := fun v w w' ⟨B, h1, h2⟩ hE => ⟨B, h1, hE _ _ _ (.inr (.inr (.inl ⟨rfl, rfl⟩))) h2⟩

def SortPost (cs : List Cmd) (w : World) (e : Ending) (w' : World) : Prop :=
  ∃ (a : Option Addr) (ls : List Cmd) (cap : Nat), e = .returned (.slice a ls.length cap) ∧ CmdsIn w' a ls cap ∧ ls.Perm cs ∧ Asc ls ∧ Below w.heap.size w w'

theorem perm_take_succ {cs out : List Cmd} {k : Nat} {c : Cmd} {j : Nat} (hc : cs[k]? = some c) (hp : out.Perm (cs.take k)) (hi : (out.take j ++ c :: out.drop j).Perm (c :: out)) : (out.take j ++ c :: out.drop j).Perm (cs.take (k + 1)) := by
  rw [List.take_add_one, hc]
  exact hi.trans ((hp.cons c).trans (List.perm_append_singleton c _).symm)

end Go.Proofs.YtdedfjkenbaebaaGreatDoor

/- delta.Sort: the commands in the order of their targets. -/
namespace Go.Proofs.YtdedfjkenbaebaaGreatDoor
open Go.RowKit Go.Shelf Go.Proofs.YtdedfjkenbaebaaGreatDoor.Plain01
set_option linter.unusedVariables false
set_option linter.unusedSimpArgs false

def cmd0 : Cmd := ⟨0, 0, 0, 0, [], none, 0⟩
/-- The commands as an order of indices says. -/
def lsOf (cs : List Cmd) (idx : Array Int) : List Cmd := idx.toList.map fun z => (cs[z.toNat]?).getD cmd0
theorem IsOrder.at {cs : List Cmd} {idx : Array Int} (h : IsOrder cs idx) {k : Nat} (hk : k < cs.length) : ∃ (m : Nat) (c : Cmd), idx[k]? = some (m : Int) ∧ m < cs.length ∧ cs[m]? = some c ∧ (lsOf cs idx)[k]? = some c := by
  have hks : k < idx.size := by rw [h.size]; exact hk
  have hm : idx[k] ∈ (List.range cs.length).map (fun i : Nat => (i : Int)) := h.perm.mem_iff.1 (by rw [Array.mem_toList_iff]; exact Array.getElem_mem hks)
  obtain ⟨m, hm1, hm2⟩ := List.mem_map.1 hm
  rw [List.mem_range] at hm1
  refine ⟨m, cs[m], by rw [Array.getElem?_eq_getElem hks, hm2], hm1, List.getElem?_eq_getElem hm1, ?_⟩
  unfold lsOf
  rw [List.getElem?_map, Array.getElem?_toList, Array.getElem?_eq_getElem hks, ← hm2]
  simp [List.getElem?_eq_getElem hm1]
theorem IsOrder.length {cs : List Cmd} {idx : Array Int} (h : IsOrder cs idx) : (lsOf cs idx).length = cs.length := by unfold lsOf; rw [List.length_map, Array.length_toList, h.size]
theorem IsOrder.list {cs : List Cmd} {idx : Array Int} (h : IsOrder cs idx) : (lsOf cs idx).Perm cs := by
  have h1 := h.perm.map (fun z : Int => (cs[z.toNat]?).getD cmd0)
  have h2 : ((List.range cs.length).map (fun i : Nat => (i : Int))).map (fun z : Int => (cs[z.toNat]?).getD cmd0) = cs := by
    apply List.ext_getElem
    · simp
    · intro i h3 h4
      simp [List.getElem?_eq_getElem h4]
  rw [h2] at h1
  exact h1
theorem IsOrder.asc2 {cs : List Cmd} {idx : Array Int} (h : IsOrder cs idx) : Asc (lsOf cs idx) := by
  unfold Asc
  rw [List.pairwise_iff_getElem]
  intro i j hi hj hij
  rw [h.length] at hi hj
  obtain ⟨m, c, a1, a2, a3, a4⟩ := h.at hi
  obtain ⟨m', c', b1, b2, b3, b4⟩ := h.at hj
  have e1 : (lsOf cs idx)[i]'(by rw [h.length]; exact hi) = c := by
    rw [List.getElem?_eq_getElem (by rw [h.length]; exact hi)] at a4
    exact Option.some.inj a4
  have e2 : (lsOf cs idx)[j]'(by rw [h.length]; exact hj) = c' := by
    rw [List.getElem?_eq_getElem (by rw [h.length]; exact hj)] at b4
    exact Option.some.inj b4
  rw [e1, e2]
  have q := h.asc i j (Nat.zero_le _) hij hj
  rw [show idx[i]! = (m : Int) by rw [getElem!_def, a1], show idx[j]! = (m' : Int) by rw [getElem!_def, b1]] at q
  unfold keyT at q
  simpa [a3, b3] using q

theorem wpList_append_cmd {W0 : World} (s : HeldW W0 []) {v : Value} {n : Nat} {xs : List Value} (hv : s.w.ownsRow W0.heap.size 62 5 v n xs) (c : Cmd) {ops : Array Oper} {rest : List Oper} {o : Oper} {a : Act} {Q : Exit → Act → World → Prop} (sO xO : Operand)
    (hgd : o.guard = none) (ho : o.op = .call { callee := .builtin .append, args := #[sO, xO], argTypes := #[25, 25] }) (hs : a.eval sO = v) (hx : a.eval xO = .slice (some ⟨s.w.heap.size, 0, none⟩) 1 1) (hn : n ≤ 1000000)
    (H : ∀ v' (s' : HeldW W0 []), s'.w.ownsRow W0.heap.size 62 5 v' (n + 1) (xs ++ c.cells) → wpList Tryz.prog ops Q rest (a.put o.dst v') s'.w) : wpList Tryz.prog ops Q (o :: rest) a (s.w.alloc (.cells #[.int .i64 c.k, .int .i64 c.t, .int .i64 c.f, .int .i64 c.n, .slice c.a c.l.length c.cap] 62)) := by
  have hb : (s.w.alloc (.cells #[.int .i64 c.k, .int .i64 c.t, .int .i64 c.f, .int .i64 c.n, .slice c.a c.l.length c.cap] 62)).heap[s.w.heap.size]? = some (.cells #[.int .i64 c.k, .int .i64 c.t, .int .i64 c.f, .int .i64 c.n, .slice c.a c.l.length c.cap] 62 (0, 0)) := heap_new _ _ rfl
  obtain ⟨v', w', hrun, hown, hbl, _⟩ := append_ext (W0 := W0) (W := s.w.alloc (.cells #[.int .i64 c.k, .int .i64 c.t, .int .i64 c.f, .int .i64 c.n, .slice c.a c.l.length c.cap] 62)) (Y := c.cells) (s.below.alloc s.below.size _) (own_later hv ((Below.refl _ _).alloc (Nat.le_refl _) _)) ⟨s.w.heap.size, 0, none⟩ 1 rfl (fun j u hu => by
    rw [Addr.add_mid, Nat.zero_add, cell_of hb]
    simpa [Cmd.cells] using hu) (flat5_one [c]) hn o.type
  refine wpList_plain hgd fun K hK => ?_
  unfold Oper.wp
  simp [execOp, ho, resolve, invoke, builtin, hs, hx, hrun, Result.andThen]
  exact hK _ _ (H v' ⟨w', hbl, by simp⟩ hown)

def DSortPost (o n : Int) (x y : List Int) (cs : List Cmd) (w : World) (e : Ending) (w' : World) : Prop :=
  ∃ (D' : Array Value) (g : Nat) (ds ls : List Cmd), e = .returned (.agg D') ∧ DeltaOf D' o n x y (.slice (some ⟨g, 0, none⟩) ds.length ds.length) ∧ CmdsIn w' (some ⟨g, 0, none⟩) ds ds.length ∧ cores ds = cores ls ∧ ls.Perm cs ∧ Asc ls ∧ Below w.heap.size w w'
/-- The same, and that the memory of the sorted ones is their own. -/
def DSortPost2 (o n : Int) (x y : List Int) (cs : List Cmd) (w : World) (e : Ending) (w' : World) : Prop :=
  ∃ (D' : Array Value) (g : Nat) (ds ls : List Cmd), e = .returned (.agg D') ∧ DeltaOf D' o n x y (.slice (some ⟨g, 0, none⟩) ds.length ds.length) ∧ CmdsIn w' (some ⟨g, 0, none⟩) ds ds.length ∧ cores ds = cores ls ∧ ls.Perm cs ∧ Asc ls ∧ Below w.heap.size w w' ∧ w.heap.size ≤ g ∧ ∀ c ∈ ds, Apart w.heap.size c.a

set_option maxRecDepth 100000 in
set_option maxHeartbeats 8000000 in
theorem dsort_any2 (D : Array Value) (o n : Int) (x y : List Int) (ca : Option Addr) (cs : List Cmd) (ccap : Nat) (hD : DeltaOf D o n x y (.slice ca cs.length ccap)) (w : World) (h : CmdsIn w ca cs ccap) (hL : cs.length ≤ 1000000) (hsm : ∀ c ∈ cs, c.l.length ≤ 1000000) :
    Calls Tryz.prog 77 #[.agg D] w (DSortPost2 o n x y cs w) := by
  have hpost : Hid (∀ (D' : Array Value) (g : Nat) (ds ls : List Cmd) (w' : World), DeltaOf D' o n x y (.slice (some ⟨g, 0, none⟩) ds.length ds.length) → CmdsIn w' (some ⟨g, 0, none⟩) ds ds.length → cores ds = cores ls → ls.Perm cs → Asc ls → Below w.heap.size w w' → w.heap.size ≤ g → (∀ c ∈ ds, Apart w.heap.size c.a) → DSortPost2 o n x y cs w (.returned (.agg D')) w') := Lib.hid fun D' g ds ls w' h1 h2 h3 h4 h5 h6 h7 h8 => ⟨D', g, ds, ls, rfl, h1, h2, h3, h4, h5, h6, h7, h8⟩
  obtain ⟨S, hS⟩ := start2 w (deltaO D) (deltaO zeroDel)
  have hq := order_any ca cs ccap S.w (h.W S) hL
  have hinf := infoDelta hD
  have hz := zero_delta
  have HC := Lib.hid h
  have HD := Lib.hid hD
  have HSM := Lib.hid hsm
  have HS := Lib.hid hS
  have d2 := (delta_held hD S w.heap.size (by simp)).2.2
  rw [← hS] at d2
  obtain ⟨L, hLe⟩ : ∃ L, L = cs.length := ⟨_, rfl⟩
  have HL := Lib.hid hLe
  have hLcap : L ≤ ccap := by rw [hLe]; exact h.len
  have hccap := h.capb
  rw [← hLe] at hq hL d2 HD
  generalize DSortPost2 o n x y cs w = POST at hpost ⊢
  clear hD h hsm hS hLe
  go_enter Tryz.func77, Tryz.ntmps77
  go_wp2_with fail
  rw [HS.out]
  clear d2 HS
  refine hq.mono ?_
  rintro e w1 ⟨g, idx, rfl, hg0, hidx, hbl, hord⟩
  obtain ⟨S1, hS1⟩ := S.after hbl
  have hDb : w1.heap[w.heap.size]? = some (deltaO D) := by rw [hS1]; exact S1.blocks (w.heap.size, deltaO D) (by simp)
  have hRb : w1.heap[w.heap.size + 1]? = some (deltaO zeroDel) := by rw [hS1]; exact S1.blocks (w.heap.size + 1, deltaO zeroDel) (by simp)
  have hb1 : Below w.heap.size w w1 := by rw [hS1]; exact S1.below
  have HB1 := Lib.hid hb1
  have HDB := Lib.hid hDb
  have HRB := Lib.hid hRb
  have HIX := Lib.hid hidx
  have HORD := Lib.hid hord
  rw [← HL.out]
  clear hS1 S1 hDb hRb hb1 hidx hord hbl hg0 hq S
  dsimp only
  go_wp2_with fail
  go_loopw [3, 5, 10] (fun vl vi vc wr => ∃ (k : Nat), k ≤ L ∧ vc = .int .i64 k ∧ ∃ s : HeldW w1 [], wr = s.w ∧ Hid (s.w.ownsRow w1.heap.size 62 5 vl k (flat5 ((lsOf cs idx).take k)))) (fun _ _ v _ => L - (intOf v).toNat)
  case atStart => exact ⟨0, by omega, rfl, HeldW.start w1, rfl, Lib.hid ⟨rfl, .inl ⟨rfl, rfl⟩⟩⟩
  case round =>
    obtain ⟨k, hk, rfl, s, rfl, hrow⟩ := hrel
    by_cases hlt : k < L
    · obtain ⟨m, c, i1, i2, i3, i4⟩ := HORD.out.at (k := k) (by rw [← HL.out]; exact hlt)
      rw [← HL.out] at i2
      have hcin := HC.out.below (HB1.out.trans (s.below.mono HB1.out.size))
      have d2 : s.w.cell? ⟨w.heap.size, 66, none⟩ = some (.slice ca L ccap) := (cell_of (heap_below HDB.out s.below) 66).trans HD.out.c66
      have z1 : s.w.cell? ⟨g, k, none⟩ = some (.int .i64 m) := by
        rw [cell_of (heap_below HIX.out s.below), Array.getElem?_map, i1]
        rfl
      obtain ⟨b, oo, rfl, x0, x1, x2, x3, x4⟩ := hcin.at i3
      have HI4 := Lib.hid i4
      clear i1 i3 i4 hcin
      go_wp2_with (refine wpList_append_cmd s hrow.out c (.tmp 14) (.tmp 20) rfl rfl rfl rfl (by omega) (fun v' s' hrow' => ?_))
      go_roundw
      case rel => exact ⟨k + 1, by omega, by go_num, s', rfl, Lib.hid (by
        have e : (lsOf cs idx).take (k + 1) = (lsOf cs idx).take k ++ [c] := by rw [List.take_add_one, HI4.out]; rfl
        rw [e, flat5_append]
        exact hrow')⟩
      case measure => simp [intOf]; omega
    · obtain rfl : k = L := by omega
      have hlen : (lsOf cs idx).length = k := by rw [HORD.out.length, ← HL.out]
      have hr := hrow.out
      rw [← hlen, List.take_length] at hr
      have hcs := HC.out.below (HB1.out.trans (s.below.mono HB1.out.size))
      have hmem : ∀ c ∈ lsOf cs idx, c ∈ cs := fun c hc => HORD.out.list.mem_iff.1 hc
      obtain ⟨a8, cap8, rfl, hc8⟩ := row_cmds hr rfl (fun c hc => hcs.ok c (hmem c hc))
      have hw := dwith_any2 D o n x y _ a8 (lsOf cs idx) cap8 HD.out s.w hc8 (by omega) (fun c hc => HSM.out c (hmem c hc))
      have hg : s.w.heap[w.heap.size]? = some (deltaO D) := heap_below HDB.out s.below
      have hg2 : s.w.heap[w.heap.size + 1]? = some (deltaO zeroDel) := heap_below HRB.out s.below
      have hbs : Below w.heap.size w s.w := HB1.out.trans (s.below.mono HB1.out.size)
      have hsz : w.heap.size + 1 < s.w.heap.size := (Array.getElem?_eq_some_iff.1 hg2).1
      have HG2 := Lib.hid hg2
      have HBS := Lib.hid hbs
      have HSZ := Lib.hid hsz
      have HW := Lib.hid hw
      clear hr hlen hcs hmem hc8 hg2 hbs hsz hw hrow
      go_wp2_with (refine wpList_load_row rfl 27 (.tmp 1) rfl w.heap.size rfl 27 _ (0, 0) _ hg Tryz.underlying27 rfl hinf ?_)
      refine HW.out.mono ?_
      rintro e w2 ⟨X, g2, es, rfl, hX, hes, hco, hbl2, hge, hap⟩
      have hg1 : w2.heap[w.heap.size + 1]? = some (deltaO zeroDel) := heap_below HG2.out hbl2
      have hinfX := infoDelta hX
      have hone := hX.one rfl
      have hszX : zeroDel.size = X.size := by rw [zeroDel_of.size, hX.size]
      have hoth : ∀ j, j ≠ w.heap.size + 1 → (w2.setRow (w.heap.size + 1) X).heap[j]? = w2.heap[j]? := fun j hj => setRow_other _ _ _ _ hj
      have HP : Hid (POST (.returned (.agg X)) (w2.setRow (w.heap.size + 1) X)) := Lib.hid (by
        have hsz := HSZ.out
        refine hpost.out X g2 es (lsOf cs idx) _ hX ?_ hco HORD.out.list HORD.out.asc2 (below_setRow (HBS.out.trans (hbl2.mono HBS.out.size)) (by omega) _) (Nat.le_trans HBS.out.size hge) (fun c hc ad had => Nat.le_trans HBS.out.size (hap c hc ad had))
        refine ⟨hes.len, hes.capb, fun hp => ?_, fun c hc => (hes.ok c hc).apart (hap c hc) (fun j hj _ => hoth j (by omega)), hes.nil⟩
        obtain ⟨b', o', e, hcell⟩ := hes.cells hp
        refine ⟨b', o', e, fun i c hc j u hu => ?_⟩
        simp only [Option.some.injEq, Addr.mk.injEq] at e
        obtain ⟨rfl, rfl, _⟩ := e
        rw [World.cell?_of_block (w := w2) (w' := w2.setRow (w.heap.size + 1) X) (hoth g2 (by omega))]
        exact hcell i c hc j u hu)
      clear hoth hes hco hap hg hX
      go_wp2_with (refine wpList_store_rowTo rfl 27 (.tmp 2) (.tmp 25) rfl rfl (w.heap.size + 1) X rfl rfl 27 zeroDel hg1 hinfX hszX hone ?_)
      refine bodyPost_ret (v := .agg X) ?_ rfl HP.out
      exact results_cell_row Tryz.results77 _ _ (w.heap.size + 1) 27 _ (0, 0) _ rfl (setRow_heap _ _ _ _ _ _ hg1) Tryz.underlying27 rfl hinfX
theorem dsort_any (D : Array Value) (o n : Int) (x y : List Int) (ca : Option Addr) (cs : List Cmd) (ccap : Nat) (hD : DeltaOf D o n x y (.slice ca cs.length ccap)) (w : World) (h : CmdsIn w ca cs ccap) (hL : cs.length ≤ 1000000) (hsm : ∀ c ∈ cs, c.l.length ≤ 1000000) :
    Calls Tryz.prog 77 #[.agg D] w (DSortPost o n x y cs w) :=
  (dsort_any2 D o n x y ca cs ccap hD w h hL hsm).mono fun _ _ ⟨D', g, ds, ls, h1, h2, h3, h4, h5, h6, h7, _⟩ => ⟨D', g, ds, ls, h1, h2, h3, h4, h5, h6, h7⟩
end Go.Proofs.YtdedfjkenbaebaaGreatDoor

/- Totals of package delta and of its reference, at a valid delta. -/
namespace Go.Proofs.YtdedfjkenbaebaaGreatDoor
open Go.RowKit Go.Shelf Go.Proofs.YtdedfjkenbaebaaGreatDoor.Plain01
set_option linter.unusedVariables false
set_option linter.unusedSimpArgs false

theorem take_succ_of {cs : List Cmd} {k : Nat} {c : Cmd} (h : cs[k]? = some c) : cs.take (k + 1) = cs.take k ++ [c] := by rw [List.take_add_one, h]; rfl
theorem copied_succ {cs : List Cmd} {k : Nat} {c : Cmd} (h : cs[k]? = some c) : copied (cs.take (k + 1)) = copied (cs.take k) + (if c.k = 1 then c.n else 0) := by rw [take_succ_of h]; simp [copied]
theorem literal_succ {cs : List Cmd} {k : Nat} {c : Cmd} (h : cs[k]? = some c) : literal (cs.take (k + 1)) = literal (cs.take k) + (if c.k = 1 then 0 else (c.l.length : Int)) := by rw [take_succ_of h]; simp [literal]

end Go.Proofs.YtdedfjkenbaebaaGreatDoor

/- What DeltaSorts needs. -/
namespace Go.Proofs.YtdedfjkenbaebaaGreatDoor
open Go.RowKit Go.Shelf Go.Proofs.YtdedfjkenbaebaaGreatDoor.Plain01
set_option linter.unusedVariables false
set_option linter.unusedSimpArgs false

theorem asc_cores {cs ds : List Cmd} (h : cores ds = cores cs) (ha : Asc cs) : Asc ds := by
  unfold Asc at *
  have e : ∀ l : List Cmd, l.Pairwise (fun a b => a.t ≤ b.t) ↔ (cores l).Pairwise (fun a b => a.2.1 ≤ b.2.1) := fun l => by
    unfold cores
    rw [List.pairwise_map]
  rw [e, h, ← e]
  exact ha
def posOf (es : List Cmd) (k : Nat) : Int := ((es.take k).map Cmd.w).sum
theorem posOf_succ {es : List Cmd} {k : Nat} {c : Cmd} (h : es[k]? = some c) : posOf es (k + 1) = posOf es k + c.w := by unfold posOf; rw [take_succ_of h]; simp
theorem chain_pos {n : Int} : ∀ (es : List Cmd) (lo : Int), Chain n lo (es.map Cmd.tgt) → (∀ (k : Nat) (c : Cmd), es[k]? = some c → c.t = lo + posOf es k) ∧ lo + posOf es es.length = n := by
  intro es
  induction es with
  | nil => intro lo h; exact ⟨fun k c hc => by simp at hc, by simp [posOf]; exact h⟩
  | cons e es ih =>
    intro lo h
    obtain ⟨h1, h2⟩ := h
    obtain ⟨a1, a2⟩ := ih _ h2
    have hs : ∀ k, posOf (e :: es) (k + 1) = e.w + posOf es k := fun k => by simp [posOf]
    refine ⟨fun k c hc => ?_, ?_⟩
    · cases k with
      | zero => cases hc; simp [posOf]; exact h1
      | succ k =>
        have := a1 k c hc
        rw [hs, this]
        show lo + e.w + posOf es k = lo + (e.w + posOf es k)
        omega
    · rw [List.length_cons, hs, ← a2]
      show lo + (e.w + posOf es es.length) = lo + e.w + posOf es es.length
      omega
theorem sorted_pos {o n : Int} {es : List Cmd} (hv : ValidD o n es) (ha : Asc es) : (∀ (k : Nat) (c : Cmd), es[k]? = some c → c.t = posOf es k) ∧ posOf es es.length = n := by
  obtain ⟨h1, h2⟩ := chain_pos es 0 (hv.chain ha)
  exact ⟨fun k c hc => by have := h1 k c hc; omega, by omega⟩
theorem sorted_same {o n : Int} {cs ls ms : List Cmd} (hv : ValidD o n cs) (h1 : ls.Perm cs) (a1 : Asc ls) (h2 : ms.Perm cs) (a2 : Asc ms) : ls = ms :=
  asc_unique (h1.trans h2.symm) ((hv.perm h1).strict a1) ((hv.perm h2).strict a2)

theorem wpList_append_new {W : World} {base : Nat} (hbase : base ≤ W.heap.size) {v : Value} (hv : IsE5 base v W) (sp : Option Addr) (m c : Nat) (news : List Value) (hl : news.length = m * 5) (hnil : sp = none → m = 0) (hnews : ∀ ad, sp = some ad → ∀ j u, news[j]? = some u → W.cell? (ad.add j) = some u) (h1 : ∀ u ∈ news, u.oneCell' = true) (hm : m ≤ 1000000)
    {ops : Array Oper} {rest : List Oper} {o : Oper} {a : Act} {Q : Exit → Act → World → Prop} (sO xO : Operand)
    (hgd : o.guard = none) (ho : o.op = .call { callee := .builtin .append, args := #[sO, xO], argTypes := #[25, 25] }) (hs : a.eval sO = v) (hx : a.eval xO = .slice sp m c)
    (H : ∀ v' W', IsRow base m news v' W' → Below W.heap.size W W' → wpList Tryz.prog ops Q rest (a.put o.dst v') W') : wpList Tryz.prog ops Q (o :: rest) a W := by
  obtain ⟨v', W', hrun, hrow, hb⟩ := run_append_freshO hbase hv sp m c news hl hnil hnews h1 hm o.type
  refine wpList_plain hgd fun K hK => ?_
  unfold Oper.wp
  simp [execOp, ho, resolve, invoke, builtin, hs, hx, hrun, Result.andThen]
  exact hK _ _ (H v' W' hrow hb)
/-- A row lies on where another block is written. -/
theorem own_store {w : World} {base n : Nat} {v u : Value} {xs : List Value} {B i : Nat} (h : w.ownsRow base 62 5 v n xs) (hB : B < base) : (w.setCell ⟨B, i, none⟩ u).ownsRow base 62 5 v n xs :=
  ⟨h.1, h.2.imp id fun ⟨g, cap, cur, e1, e2, e3, e4⟩ => ⟨g, cap, cur, e1, e2, (Below.heap_setCell _ _ _ _ (by show g ≠ B; omega)).trans e3, e4⟩⟩
/-- A slice of the commands in their order; a delta with them. -/
def IsSl (cs : List Cmd) : Value → World → Prop := fun v w => ∃ (a : Option Addr) (ls : List Cmd) (cap : Nat), v = .slice a ls.length cap ∧ CmdsIn w a ls cap ∧ ls.Perm cs ∧ Asc ls
theorem stable_sl (cs : List Cmd) : Stable (fun W W' => Below W.heap.size W W') (IsSl cs) := fun v w w' ⟨a, ls, cap, h1, h2, h3⟩ hE => ⟨a, ls, cap, h1, h2.below hE, h3⟩
def IsDelS (o n : Int) (x y : List Int) (cs : List Cmd) : Value → World → Prop := fun v w => ∃ (D : Array Value) (a : Option Addr) (ls : List Cmd) (cap : Nat), v = .agg D ∧ DeltaOf D o n x y (.slice a ls.length cap) ∧ CmdsIn w a ls cap ∧ ls.Perm cs ∧ Asc ls
theorem stable_delS (o n : Int) (x y : List Int) (cs : List Cmd) : Stable (fun W W' => Below W.heap.size W W') (IsDelS o n x y cs) := fun v w w' ⟨D, a, ls, cap, h1, h2, h3, h4⟩ hE => ⟨D, a, ls, cap, h1, h2, h3.below hE, h4⟩
end Go.Proofs.YtdedfjkenbaebaaGreatDoor
