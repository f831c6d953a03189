import Derived.BigQuiet
import Derived.Test.YtdedfjkenbaebaaDoorE08a7
import Derived.Test.YtdedfjkenbaebaaDoorE08a10
import Derived.Laws.StructEq
/- The order of commands by their targets: cmp.Compare, the closure of order, order. -/
namespace Go.Proofs.YtdedfjkenbaebaaDoor
open Go.RowKit Go.Sort
set_option linter.unusedVariables false
set_option linter.unusedSimpArgs false

theorem isnan_any (x : Int) (w : World) : Calls Tryd.prog 95 #[.int .i64 x] w fun e w' => e = .returned (.bool false) ∧ w' = w := by
  go_enter Tryd.func95, Tryd.ntmps95
  go_wp2
  go_ret
  exact ⟨by simp, rfl⟩
theorem compare_any (x y : Int) (w : World) : Calls Tryd.prog 67 #[.int .i64 x, .int .i64 y] w fun e w' => e = .returned (.int .i64 (cmpI x y)) ∧ w' = w := by
  have h1 := isnan_any x w
  have h2 := isnan_any y w
  unfold cmpI
  by_cases c1 : x < y
  · rw [if_pos c1]
    go_enter Tryd.func67, Tryd.ntmps67
    go_wp2_with fail
    refine h1.mono ?_
    rintro e _ ⟨rfl, rfl⟩
    go_wp2_with fail
    refine h2.mono ?_
    rintro e _ ⟨rfl, rfl⟩
    go_wp2
    go_ret
    exact ⟨rfl, rfl⟩
  · rw [if_neg c1]
    by_cases c2 : y < x
    · rw [if_pos c2]
      go_enter Tryd.func67, Tryd.ntmps67
      go_wp2_with fail
      refine h1.mono ?_
      rintro e _ ⟨rfl, rfl⟩
      go_wp2_with fail
      refine h2.mono ?_
      rintro e _ ⟨rfl, rfl⟩
      go_wp2
      go_ret
      exact ⟨rfl, rfl⟩
    · rw [if_neg c2]
      go_enter Tryd.func67, Tryd.ntmps67
      go_wp2_with fail
      refine h1.mono ?_
      rintro e _ ⟨rfl, rfl⟩
      go_wp2_with fail
      refine h2.mono ?_
      rintro e _ ⟨rfl, rfl⟩
      go_wp2
      go_ret
      exact ⟨rfl, rfl⟩

theorem CmdsIn.W {w : World} {ca : Option Addr} {cs : List Cmd} {ccap : Nat} (h : CmdsIn w ca cs ccap) {bs : List (Nat × Obj)} (s : HeldW w bs) : CmdsIn s.w ca cs ccap := h.below s.below
/-- A boxed slice of commands; what it holds, in every world of a class. -/
abbrev boxL (ca : Option Addr) (L ccap : Nat) : Obj := .cells #[.slice ca L ccap] 24 (0, 0)
def keyT (cs : List Cmd) (z : Int) : Int := ((cs[z.toNat]?).map Cmd.t).getD 0
theorem keyT_at {cs : List Cmd} {i : Nat} {c : Cmd} (h : cs[i]? = some c) : keyT cs i = c.t := by simp [keyT, h]

set_option maxRecDepth 100000 in
set_option maxHeartbeats 4000000 in
theorem orderC_any (B : Nat) (ca : Option Addr) (cs : List Cmd) (ccap i j : Nat) (w : World) (hB : w.heap[B]? = some (boxL ca cs.length ccap)) (h : CmdsIn w ca cs ccap) (hi : i < cs.length) (hj : j < cs.length) :
    Calls Tryd.prog 66 #[.int .i64 i, .int .i64 j, .pointer (some ⟨B, 0, none⟩)] w (Gives (.int .i64 (cmpI (keyT cs i) (keyT cs j))) w) := by
  obtain ⟨ci, hci⟩ : ∃ c, cs[i]? = some c := ⟨_, List.getElem?_eq_getElem hi⟩
  obtain ⟨cj, hcj⟩ : ∃ c, cs[j]? = some c := ⟨_, List.getElem?_eq_getElem hj⟩
  rw [keyT_at hci, keyT_at hcj]
  obtain ⟨b, o, rfl, _⟩ := h.at hci
  have hbl : ∀ p ∈ [(B, boxL (some ⟨b, o, none⟩) cs.length ccap)], w.heap[p.1]? = some p.2 := by simpa using hB
  have c0 : ∀ s : HeldW w [(B, boxL (some ⟨b, o, none⟩) cs.length ccap)], s.w.cell? ⟨B, 0, none⟩ = some (.slice (some ⟨b, o, none⟩) cs.length ccap) := fun s => by rw [cell_of (s.blocks _ List.mem_cons_self)]; rfl
  have c1 : ∀ s : HeldW w [(B, boxL (some ⟨b, o, none⟩) cs.length ccap)], s.w.cell? ⟨b, o + i * 5 + 1, none⟩ = some (.int .i64 ci.t) := fun s => by
    obtain ⟨b', o', e, _, h1, _⟩ := (h.W s).at hci
    simp only [Option.some.injEq, Addr.mk.injEq] at e
    obtain ⟨rfl, rfl, _⟩ := e
    exact h1
  have c2 : ∀ s : HeldW w [(B, boxL (some ⟨b, o, none⟩) cs.length ccap)], s.w.cell? ⟨b, o + j * 5 + 1, none⟩ = some (.int .i64 cj.t) := fun s => by
    obtain ⟨b', o', e, _, h1, _⟩ := (h.W s).at hcj
    simp only [Option.some.injEq, Addr.mk.injEq] at e
    obtain ⟨rfl, rfl, _⟩ := e
    exact h1
  have hlen := h.len
  have hcap := h.capb
  have hcmp := fun s : HeldW w [(B, boxL (some ⟨b, o, none⟩) cs.length ccap)] => gives_same (compare_any ci.t cj.t s.w)
  clear h hB hci hcj
  generalize cs.length = L at *
  go_enter Tryd.func66, Tryd.ntmps66
  go_wp2_with fail
  refine wp_region_class w _ (by kernel_rfl) (by kernel_rfl) (Below.refl _ _) hbl (fun hne => ?_)
  repeat (go_big_quiet_step ((go_at_call 67; exact HeldW.call (hcmp _))))
  refine wpQuiet_nil ?_
  rintro _ ⟨s2, rfl⟩
  go_wp2
  go_ret
  exact ⟨rfl, s2.below⟩

theorem made_zeroI (k : Nat) : madeCells (Value.int .i64 0).cells (k * 1) = (Array.replicate k (0 : Int)).map (Value.int .i64) := by
  apply Array.ext_getElem?
  intro i
  unfold madeCells
  rw [Nat.mul_one]
  by_cases h : i < k
  · simp [h, Value.cells, Nat.mod_one]
  · simp [h]
theorem make_ints (k : Nat) (hk : k ≤ 1000000) (w : World) : (Instr.makeSlice 66 (.int .i64 (k : Int)) (.int .i64 (k : Int))).run Tryd.prog w = .ok (.slice (some ⟨w.heap.size, 0, none⟩) k k) (w.alloc (rowI (Array.replicate k 0))) := by
  have hi : ∃ i, Tryd.prog.info? 3 = some i ∧ i.zero = some (.int .i64 0) ∧ i.size = 1 ∧ i.bytes = 8 := by
    have h : (Tryd.prog.info? 3).map (fun i => (i.zero, i.size, i.bytes)) = some (some (.int .i64 0), 1, 8) := by kernel_rfl
    obtain ⟨i, hi, he⟩ := Option.map_eq_some_iff.1 h
    simp only [Prod.mk.injEq] at he
    exact ⟨i, hi, he.1, he.2.1, he.2.2⟩
  obtain ⟨i, hi, hz, hs, hb⟩ := hi
  rw [run_make w 66 3 i _ Tryd.underlying66 hi hz .i64 .i64 k k (by omega) (by omega) (by rw [hb]; omega) (by omega)]
  rw [hs, Int.toNat_natCast, made_zeroI]

/-- The indices of commands in ascending order of their targets. -/
structure IsOrder (cs : List Cmd) (idx : Array Int) : Prop where
  size : idx.size = cs.length
  perm : idx.toList.Perm ((List.range cs.length).map (fun i : Nat => (i : Int)))
  asc : AscIn (keyT cs) 0 cs.length idx
def OrderPost (cs : List Cmd) (w : World) (e : Ending) (w' : World) : Prop :=
  ∃ (g : Nat) (idx : Array Int), e = .returned (.slice (some ⟨g, 0, none⟩) cs.length cs.length) ∧ w.heap.size ≤ g ∧ w'.heap[g]? = some (rowI idx) ∧ Below w.heap.size w w' ∧ IsOrder cs idx

/-- A filled row. -/
theorem filled {L : Nat} {dk : Array Int} (hs : dk.size = L) (h : ∀ i, i < L → dk[i]! = (i : Int)) : dk.toList = (List.range L).map (fun i : Nat => (i : Int)) := by
  apply List.ext_getElem
  · simp [hs]
  · intro i h1 h2
    have hi : i < dk.size := by simpa using h1
    have := h i (by omega)
    rw [getElem!_pos dk i hi] at this
    simpa using this
theorem permIn_whole {L : Nat} {d d' : Array Int} (h : PermIn 0 L d d') (hs : d.size = L) : d'.toList.Perm d.toList := by
  have h2 := h.2.2
  have e1 : d'.extract 0 L = d' := by rw [← hs, ← h.1]; simp
  have e2 : d.extract 0 L = d := by rw [← hs]; simp
  rwa [e1, e2] at h2

set_option maxRecDepth 100000 in
set_option maxHeartbeats 4000000 in
theorem order_any (ca : Option Addr) (cs : List Cmd) (ccap : Nat) (w : World) (h : CmdsIn w ca cs ccap) (hL : cs.length ≤ 1000000) : Calls Tryd.prog 39 #[.slice ca cs.length ccap] w (OrderPost cs w) := by
  have hpost : Hid (∀ e w', (∃ (g : Nat) (idx : Array Int), e = .returned (.slice (some ⟨g, 0, none⟩) cs.length cs.length) ∧ w.heap.size ≤ g ∧ w'.heap[g]? = some (rowI idx) ∧ Below w.heap.size w w' ∧ IsOrder cs idx) → OrderPost cs w e w') := Lib.hid fun _ _ h => h
  have HC := Lib.hid h
  obtain ⟨L, hLe⟩ : ∃ L, L = cs.length := ⟨_, rfl⟩
  have HL := Lib.hid hLe
  have hmk := fun w => make_ints L (by omega) w
  rw [← hLe] at hL hpost ⊢
  clear h hLe
  go_enter Tryd.func39, Tryd.ntmps39
  go_wp2
  obtain ⟨s, hs⟩ : ∃ s : HeldW w [(w.heap.size + 1, rowI (Array.replicate L 0)), (w.heap.size, boxL ca L ccap)], (w.alloc (boxL ca L ccap)).alloc (rowI (Array.replicate L 0)) = s.w := start2 w _ _
  rw [hs]
  clear hs hmk
  go_loopw [10] (fun v wr => ∃ k : Nat, k ≤ L ∧ v = .int .i64 k ∧ ∃ dk : Array Int, dk.size = L ∧ Hid (∀ i, i < k → dk[i]! = (i : Int)) ∧ ∃ s : HeldW w [(w.heap.size + 1, rowI dk), (w.heap.size, boxL ca L ccap)], wr = s.w) (fun v _ => L - (intOf v).toNat)
  case atStart => exact ⟨0, by omega, rfl, _, by simp, Lib.hid (fun i hi => by omega), s, rfl⟩
  case round =>
    clear s
    obtain ⟨k, hk, rfl, dk, hsz, hf, s, rfl⟩ := hrel
    by_cases hlt : k < L
    · obtain ⟨u, c1⟩ : ∃ u, s.w.cell? ⟨w.heap.size + 1, k, none⟩ = some u := ⟨.int .i64 dk[k]!, by rw [cell_of (s.blocks (w.heap.size + 1, rowI dk) List.mem_cons_self)]; simp [getElem!_pos dk k (by omega), show k < dk.size by omega]⟩
      have f1 : s.w.frozen? ⟨w.heap.size + 1, k, none⟩ = false := free_of (s.blocks (w.heap.size + 1, rowI dk) List.mem_cons_self) k
      have hstep : Hid (∀ i, i < k + 1 → (dk.setIfInBounds k (k : Int))[i]! = (i : Int)) := Lib.hid fun i hi => by
        rw [getElem!_pos _ i (by simp; omega), Array.getElem_setIfInBounds (by omega)]
        by_cases e : k = i
        · subst e; simp
        · rw [if_neg e]
          have := hf.out i (by omega)
          rwa [getElem!_pos dk i (by omega)] at this
      have hsz2 : (dk.setIfInBounds k (k : Int)).size = L := by simp [hsz]
      have HS : Hid (∃ s' : HeldW w [(w.heap.size + 1, rowI (dk.setIfInBounds k (k : Int))), (w.heap.size, boxL ca L ccap)], s.w.setCell ⟨w.heap.size + 1, k, none⟩ (.int .i64 k) = s'.w) := Lib.hid ⟨HeldW.store (i := k) (v := .int .i64 k) s (by omega) (by simp) (by simp), rfl⟩
      go_wp2
      obtain ⟨s', hs'⟩ := HS.out
      rw [hs']
      go_roundw
      case rel => exact ⟨k + 1, by omega, by go_num, _, hsz2, hstep, s', rfl⟩
      case measure => simp [intOf]; omega
    · obtain rfl : k = L := by omega
      have hrow : s.w.heap[w.heap.size + 1]? = some (rowI dk) := s.blocks _ List.mem_cons_self
      have hbox : s.w.heap[w.heap.size]? = some (boxL ca k ccap) := s.blocks (w.heap.size, boxL ca k ccap) (by simp)
      have hE : AllE (fun z => ∃ i : Nat, i < k ∧ z = (i : Int)) dk := fun i hi => ⟨i, by omega, hf.out i (by omega)⟩
      have hcmp : CmpX s.w (w.heap.size + 1) k 66 #[.pointer (some ⟨w.heap.size, 0, none⟩)] (keyT cs) (fun z => ∃ i : Nat, i < k ∧ z = (i : Int)) :=
        ⟨enters_of Tryd.func66 (by kernel_rfl) rfl, fun d t hd x y ⟨i, hi, hx⟩ ⟨j, hj, hy⟩ => by
          subst hx; subst hy
          have hb : Below w.heap.size w t.w := s.below.trans ((t.but.mono s.below.size).below (by omega))
          refine orderC_any w.heap.size ca cs ccap i j t.w ?_ (HC.out.below hb) (by rw [← HL.out]; exact hi) (by rw [← HL.out]; exact hj)
          rw [← HL.out]
          exact (t.but.block _ (Array.getElem?_eq_some_iff.1 hbox).1 (by omega)).trans hbox⟩
      have hcall := sort_stable_any 66 #[.pointer (some ⟨w.heap.size, 0, none⟩)] (keyT cs) _ (w.heap.size + 1) k k s.w hcmp (by omega) dk (HeldX.start hrow) hsz hE
      have hw : (HeldX.start hrow).w = s.w := rfl
      rw [hw] at hcall
      have HF := Lib.hid (filled hsz hf.out)
      clear hw hcmp hE hf hrow hbox hlt
      go_wp2_with fail
      refine hcall.mono ?_
      rintro e _ ⟨rfl, d', hp, ha, t, rfl⟩
      clear hcall
      have HP := Lib.hid hp
      have HA := Lib.hid ha
      clear hp ha
      go_wp2
      go_ret
      refine hpost.out _ _ ⟨_, d', rfl, by omega, t.blocks _ List.mem_cons_self, s.below.trans ((t.but.mono s.below.size).below (by omega)), ⟨by rw [HP.out.1, hsz, HL.out], ?_, by rw [← HL.out]; exact HA.out⟩⟩
      have := permIn_whole HP.out hsz
      rw [HF.out, HL.out] at this
      exact this
end Go.Proofs.YtdedfjkenbaebaaDoor

/- Maps from bytes, and from pairs of numbers, to numbers: looked up, stored into. -/
namespace Go.Proofs.YtdedfjkenbaebaaDoor
open Go.RowKit
set_option linter.unusedVariables false
set_option linter.unusedSimpArgs false

set_option linter.unusedSectionVars false
section
variable {K : Type} [DecidableEq K]
/-- What a map's entries hold at a key: the place and the number. -/
def lookE : List (K × Int × Nat) → K → Nat → Option (Nat × Int)
  | [], _, _ => none
  | e :: es, x, i => if e.1 = x then some (i, e.2.1) else lookE es x (i + 1)
def getE (es : List (K × Int × Nat)) (x : K) : Option Int := (lookE es x 0).map (·.2)
/-- A number is stored at a key. -/
def updE (es : List (K × Int × Nat)) (clock : Nat) (x : K) (v : Int) : List (K × Int × Nat) :=
  match lookE es x 0 with
  | some (i, _) => es.modify i fun e => (x, v, e.2.2)
  | none => es ++ [(x, v, clock)]
def clkE (es : List (K × Int × Nat)) (clock : Nat) (x : K) : Nat := match lookE es x 0 with
  | some _ => clock
  | none => clock + 1
theorem lookE_shift : ∀ (es : List (K × Int × Nat)) (x : K) (i : Nat), lookE es x i = (lookE es x 0).map fun p => (p.1 + i, p.2) := by
  intro es
  induction es with
  | nil => intro x i; rfl
  | cons e es ih =>
    intro x i
    simp only [lookE]
    by_cases h : e.1 = x
    · rw [if_pos h, if_pos h]; simp
    · rw [if_neg h, if_neg h, ih x (i + 1), ih x (0 + 1), Option.map_map]
      congr 1
      funext p
      simp only [Function.comp]
      rw [show p.1 + (0 + 1) + i = p.1 + (i + 1) by omega]
theorem getE_cons (e : K × Int × Nat) (es : List (K × Int × Nat)) (x : K) : getE (e :: es) x = if e.1 = x then some e.2.1 else getE es x := by
  unfold getE
  simp only [lookE]
  by_cases h : e.1 = x
  · rw [if_pos h, if_pos h]; rfl
  · rw [if_neg h, if_neg h, lookE_shift es x (0 + 1), Option.map_map]
    congr 1
theorem lookE_at : ∀ (es : List (K × Int × Nat)) (x : K) (i : Nat) (v : Int), lookE es x 0 = some (i, v) → ∃ e, es[i]? = some e ∧ e.1 = x ∧ e.2.1 = v := by
  intro es
  induction es with
  | nil => intro x i v h; simp [lookE] at h
  | cons e es ih =>
    intro x i v h
    simp only [lookE] at h
    by_cases hx : e.1 = x
    · rw [if_pos hx] at h
      simp only [Option.some.injEq, Prod.mk.injEq] at h
      obtain ⟨rfl, rfl⟩ := h
      exact ⟨e, rfl, hx, rfl⟩
    · rw [if_neg hx, lookE_shift] at h
      obtain ⟨⟨j, u⟩, hj, he⟩ := Option.map_eq_some_iff.1 h
      simp only [Prod.mk.injEq] at he
      obtain ⟨rfl, rfl⟩ := he
      obtain ⟨e', h1, h2⟩ := ih x j u hj
      exact ⟨e', by simpa using h1, h2⟩
theorem getE_modify : ∀ (es : List (K × Int × Nat)) (x : K) (i : Nat) (v w : Int), lookE es x 0 = some (i, v) → ∀ y, getE (es.modify i fun e => (x, w, e.2.2)) y = if y = x then some w else getE es y := by
  intro es
  induction es with
  | nil => intro x i v w h; simp [lookE] at h
  | cons e es ih =>
    intro x i v w h y
    simp only [lookE] at h
    by_cases hx : e.1 = x
    · rw [if_pos hx] at h
      simp only [Option.some.injEq, Prod.mk.injEq] at h
      obtain ⟨rfl, rfl⟩ := h
      simp only [List.modify_zero_cons, getE_cons, hx]
      by_cases hy : y = x
      · subst hy; simp
      · rw [if_neg hy, if_neg (Ne.symm hy), if_neg (Ne.symm hy)]
    · rw [if_neg hx, lookE_shift] at h
      obtain ⟨⟨j, u⟩, hj, he⟩ := Option.map_eq_some_iff.1 h
      simp only [Prod.mk.injEq] at he
      obtain ⟨rfl, rfl⟩ := he
      simp only [List.modify_succ_cons, getE_cons, ih x j u w hj y]
      by_cases hy : y = x
      · subst hy; rw [if_neg hx, if_pos rfl, if_pos rfl]
      · rw [if_neg hy, if_neg hy]
theorem getE_append : ∀ (es : List (K × Int × Nat)) (x : K) (w : Int) (c : Nat), lookE es x 0 = none → ∀ y, getE (es ++ [(x, w, c)]) y = if y = x then some w else getE es y := by
  intro es
  induction es with
  | nil =>
    intro x w c _ y
    rw [List.nil_append, getE_cons]
    by_cases hy : y = x
    · subst hy; simp
    · rw [if_neg hy, if_neg (Ne.symm hy)]
  | cons e es ih =>
    intro x w c h y
    simp only [lookE] at h
    by_cases hx : e.1 = x
    · rw [if_pos hx] at h; cases h
    · rw [if_neg hx, lookE_shift] at h
      have h0 : lookE es x 0 = none := by simpa using h
      rw [List.cons_append, getE_cons, getE_cons, ih x w c h0 y]
      by_cases hy : y = x
      · subst hy; rw [if_neg hx, if_pos rfl, if_pos rfl]
      · rw [if_neg hy, if_neg hy]
theorem getE_upd (es : List (K × Int × Nat)) (clock : Nat) (x : K) (w : Int) (y : K) : getE (updE es clock x w) y = if y = x then some w else getE es y := by
  unfold updE
  cases h : lookE es x 0 with
  | none => exact getE_append es x w clock h y
  | some p => exact getE_modify es x p.1 p.2 w h y

/-- The entries of a map. -/
def entE (key : K → Value) (e : K × Int × Nat) : MapEntry := ⟨key e.1, .int .i64 e.2.1, e.2.2⟩
abbrev mapO (key : K → Value) (es : List (K × Int × Nat)) (clock : Nat) : Obj := .map (es.map (entE key)).toArray clock
theorem ent_modify (key : K → Value) (x : K) (v : Int) : ∀ (es : List (K × Int × Nat)) (i : Nat), (es.map (entE key)).modify i (fun e => ⟨key x, .int .i64 v, e.born⟩) = (es.modify i (fun e => (x, v, e.2.2))).map (entE key) := by
  intro es
  induction es with
  | nil => intro i; cases i <;> rfl
  | cons e es ih =>
    intro i
    cases i with
    | zero => rfl
    | succ i => simp only [List.map_cons, List.modify_succ_cons, ih i]
/-- What keys must be. -/
structure KeyK (mt kt : TypeId) (key : K → Value) : Prop where
  und : Tryd.prog.underlying mt = some (.map kt 3)
  chk : ∀ (b : Bool) (w : World) (x : K), (Instr.checkKey b 10000 kt (key x)).run Tryd.prog w = .ok () w
  fnd : ∀ (w : World) (x : K) (es : List (K × Int × Nat)), (Instr.findKey kt (key x) (es.map (entE key))).run Tryd.prog w = .ok ((lookE es x 0).map fun p => (p.1, .int .i64 p.2)) w
  stay : ∀ (w : World) (x : K), (Instr.keyThatStays (key x) (key x)).run Tryd.prog w = .ok (key x) w

theorem lookup_any {mt kt : TypeId} {key : K → Value} (hK : KeyK mt kt key) (w : World) (M : Nat) (es : List (K × Int × Nat)) (clock : Nat) (h : w.heap[M]? = some (mapO key es clock)) (x : K) :
    (Instr.lookup mt (.map (some M)) (key x) true).run Tryd.prog w = .ok (.tuple #[.int .i64 ((getE es x).getD 0), .bool (getE es x).isSome]) w := by
  have hz : (zeroValue 3).run Tryd.prog w = .ok (.int .i64 0) w := by kernel_rfl
  have hf := hK.fnd w x es
  simp only [Instr.lookup, Sem.run_bind, run_underlying hK.und, Result.andThen_ok, getObj, Sem.run, h, hK.chk, Sem.run_pure]
  rw [hf]
  unfold getE
  cases hl : lookE es x 0 with
  | none => simp [hz]
  | some p => simp
theorem update_any {mt kt : TypeId} {key : K → Value} (hK : KeyK mt kt key) (w : World) (M : Nat) (es : List (K × Int × Nat)) (clock : Nat) (h : w.heap[M]? = some (mapO key es clock)) (x : K) (v : Int) :
    (Instr.mapUpdate mt (.map (some M)) (key x) (.int .i64 v)).run Tryd.prog w = .ok () { w with heap := w.heap.setIfInBounds M (mapO key (updE es clock x v) (clkE es clock x)) } := by
  have hf := hK.fnd w x es
  simp only [Instr.mapUpdate, Sem.run_bind, run_underlying hK.und, Result.andThen_ok, getObj, setObj, Sem.run, h, hK.chk]
  rw [hf]
  unfold updE clkE
  cases hl : lookE es x 0 with
  | none =>
    simp only [setObj, Sem.run, h, Option.map_none, Sem.run_pure, Result.andThen_ok]
    rw [show (mapO key (es ++ [(x, v, clock)]) (clock + 1)) = .map (es.map (entE key) ++ [(⟨key x, .int .i64 v, clock⟩ : MapEntry)]).toArray (clock + 1) by simp [entE]]
    simp
  | some p =>
    obtain ⟨i, u⟩ := p
    obtain ⟨e, he, he1, he2⟩ := lookE_at es x i u hl
    have hk : (((es.map (entE key)).toArray[i]?).map (·.key)).getD (key x) = key x := by simp [he, entE, he1]
    simp only [Option.map_some, hk, Sem.run_bind, hK.stay, Result.andThen_ok]
    simp [entE, he, setObj, Sem.run, h]
    rw [ent_modify]
end
end Go.Proofs.YtdedfjkenbaebaaDoor

/- Bytes and pairs of numbers as keys. -/
namespace Go.Proofs.YtdedfjkenbaebaaDoor
open Go.RowKit
set_option linter.unusedVariables false
set_option linter.unusedSimpArgs false

abbrev k8 (x : Int) : Value := .int .u8 x
abbrev k2 (p : Int × Int) : Value := .agg #[.int .i64 p.1, .int .i64 p.2]
theorem find8 : ∀ (es : List (Int × Int × Nat)) (x : Int) (i : Nat), Instr.findNow (.int .u8) (k8 x) (es.map (entE k8)) i = some ((lookE es x i).map fun p => (p.1, .int .i64 p.2)) := by
  intro es
  induction es with
  | nil => intro x i; rfl
  | cons e es ih =>
    intro x i
    simp only [List.map_cons, Instr.findNow, entE, Instr.sameNow, lookE, if_true]
    by_cases h : e.1 = x
    · rw [h, if_pos rfl]
      simp
    · have h2 : (x == e.1) = false := by simpa using Ne.symm h
      rw [if_neg h, h2]
      exact ih x (i + 1)
theorem chk8 (n : Nat) (b : Bool) (w : World) (x : Int) : (Instr.checkKey b (n + 1) 5 (k8 x)).run Tryd.prog w = .ok () w := by
  simp [Instr.checkKey, run_underlying Tryd.underlying5]
theorem key8 : KeyK 140 5 k8 :=
  ⟨Tryd.underlying140, fun b w x => chk8 9999 b w x, fun w x es => by
    simp only [Instr.findKey, Sem.run_bind, run_underlying Tryd.underlying5, Result.andThen_ok, find8, Sem.run_pure], fun w x => by
    simp [Instr.keyThatStays, Instr.sameBits]⟩

theorem part2 (w : World) (x y : Int) (i : Nat) (v : Int) (hv : (#[.int .i64 x, .int .i64 y] : Array Value)[i]? = some (.int .i64 v)) : (part 3 #[.int .i64 x, .int .i64 y] i).run Tryd.prog w = .ok (.int .i64 v) w := by
  have hag : (isAgg 3).run Tryd.prog w = .ok false w := by kernel_rfl
  unfold part
  simp only [Sem.run_bind, hag, Result.andThen_ok, hv]
  simp
theorem chk2 (n : Nat) (b : Bool) (w : World) (p : Int × Int) : (Instr.checkKey b (n + 2) 112 (k2 p)).run Tryd.prog w = .ok () w := by
  have ht : Tryd.prog.underlying 112 = some (.array 2 3) := Tryd.underlying112
  have hsz : (sizeOf 3).run Tryd.prog w = .ok 1 w := by kernel_rfl
  have h1 : ∀ x : Int, (Instr.checkKey b (n + 1) 3 (.int .i64 x)).run Tryd.prog w = .ok () w := fun x => by simp [Instr.checkKey, run_underlying Tryd.underlying3]
  rw [Instr.checkKey]
  simp only [Sem.run_bind, run_underlying ht, Result.andThen_ok, Std.Legacy.Range.forIn_eq_forIn_range', Std.Legacy.Range.size, Nat.sub_zero, Nat.add_sub_cancel, Nat.div_one]
  have p0 := part2 w p.1 p.2 0 p.1 rfl
  have p1 := part2 w p.1 p.2 1 p.2 rfl
  rw [show List.range' 0 2 1 = [0, 1] from rfl]
  simp [hsz, p0, p1, h1]
theorem equal2 (p q : Int × Int) (w : World) : (Op.equal 112 (k2 p) (k2 q)).run Tryd.prog w = .ok (decide (p = q)) w := by
  have ht : Tryd.prog.underlying 112 = some (.array 2 3) := Tryd.underlying112
  have he : Tryd.prog.underlying 3 = some (.int .i64) := Tryd.underlying3
  have hsz : (sizeOf 3).run Tryd.prog w = .ok 1 w := by kernel_rfl
  obtain ⟨a, b⟩ := p
  obtain ⟨c, d⟩ := q
  unfold Op.equal Op.maxDepth
  rw [show (10000 : Nat) = 9998 + 2 from rfl, Op.equalIn]
  simp only [Sem.run_bind, run_underlying ht, Result.andThen_ok, hsz, Std.Legacy.Range.forIn_eq_forIn_range', Std.Legacy.Range.size, Nat.sub_zero, Nat.add_sub_cancel, Nat.div_one]
  have p0 := part2 w a b 0 a rfl
  have p1 := part2 w a b 1 b rfl
  have q0 := part2 w c d 0 c rfl
  have q1 := part2 w c d 1 d rfl
  have r : ∀ x y : Int, (Op.equalIn (9998 + 1) 3 (.int .i64 x) (.int .i64 y)).run Tryd.prog w = .ok (x == y) w := fun x y => by
    rw [run_equalIn_int w 9998 3 .i64 .i64 _ _ he]
  rw [show List.range' 0 2 1 = [0, 1] from rfl]
  by_cases h1 : a = c
  · subst h1
    by_cases h2 : b = d
    · subst h2; simp [p0, p1, r]
    · simp [h2, p0, p1, q0, q1, r]
  · simp [h1, p0, p1, q0, q1, r]
theorem findAsk2 (w : World) : ∀ (es : List ((Int × Int) × Int × Nat)) (p : Int × Int) (i : Nat), (Instr.findAsking 112 (k2 p) (es.map (entE k2)) i).run Tryd.prog w = .ok ((lookE es p i).map fun q => (q.1, .int .i64 q.2)) w := by
  intro es
  induction es with
  | nil => intro p i; simp [Instr.findAsking, lookE]
  | cons e es ih =>
    intro p i
    simp only [List.map_cons, Instr.findAsking, entE, Sem.run_bind, equal2, Result.andThen_ok, lookE]
    by_cases h : e.1 = p
    · rw [if_pos h, decide_eq_true h.symm]; simp
    · rw [if_neg h, decide_eq_false (Ne.symm h)]
      simp only [Bool.false_eq_true, if_false]
      exact ih p (i + 1)
theorem key2 : KeyK 145 112 k2 :=
  ⟨Tryd.underlying145, fun b w p => chk2 9998 b w p, fun w p es => by
    simp only [Instr.findKey, Sem.run_bind, run_underlying Tryd.underlying112, Result.andThen_ok]
    cases es with
    | nil => simp [Instr.findNow, lookE]
    | cons e es =>
      simp only [List.map_cons, Instr.findNow, entE, Instr.sameNow]
      exact findAsk2 w (e :: es) p 0, fun w p => by
    simp [Instr.keyThatStays, Instr.sameBits]⟩
end Go.Proofs.YtdedfjkenbaebaaDoor
