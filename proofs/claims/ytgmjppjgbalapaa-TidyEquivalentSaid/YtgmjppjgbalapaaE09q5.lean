/- Targets that cover a file: plain mathematics. No Go text. Slices of commands that came in, opened. A delta that came in, opened. The fault of a delta, as the chapter orders the faults: one fault for each delta. No Go text. Find, Totals and Sort of a valid delta: plain mathematics. No Go text. -/
import Derived.Test.YtgmjppjgbalapaaE09q1
import Derived.Deep.Slices
import Derived.Test.YtgmjppjgbalapaaE09q3
import Derived.Test.YtgmjppjgbalapaaE09q4
namespace Go.Proofs.Ytgmjppjgbalapaa
set_option linter.unusedVariables false

/-- An offset belongs to a target. -/
def Cov (T : List (Int × Int)) (x : Int) : Prop := ∃ p ∈ T, p.1 ≤ x ∧ x < p.1 + p.2
instance (T : List (Int × Int)) (x : Int) : Decidable (Cov T x) := by unfold Cov; exact inferInstance
/-- Two targets have no byte in common. -/
def Off (p q : Int × Int) : Prop := p.1 + p.2 ≤ q.1 ∨ q.1 + q.2 ≤ p.1
instance (p q : Int × Int) : Decidable (Off p q) := by unfold Off; exact inferInstance
theorem Off.symm {p q : Int × Int} (h : Off p q) : Off q p := h.elim .inr .inl
theorem Cov.perm {T T' : List (Int × Int)} {x : Int} (hp : T'.Perm T) (h : Cov T x) : Cov T' x := by
  obtain ⟨p, hp', h⟩ := h
  exact ⟨p, hp.mem_iff.2 hp', h⟩

/-- The targets are the bytes from lo to n, each byte of one of them. -/
structure Tiles (lo n : Int) (T : List (Int × Int)) : Prop where
  bd : ∀ p ∈ T, lo ≤ p.1 ∧ 1 ≤ p.2 ∧ p.1 + p.2 ≤ n
  off : T.Pairwise Off
  cov : ∀ x, lo ≤ x → x < n → Cov T x
theorem Tiles.perm {lo n : Int} {T T' : List (Int × Int)} (h : Tiles lo n T) (hp : T'.Perm T) : Tiles lo n T' :=
  ⟨fun p hm => h.bd p (hp.mem_iff.1 hm), (List.Perm.pairwise_iff (fun {a b} h => Off.symm h) hp).2 h.off, fun x h0 h1 => (h.cov x h0 h1).perm hp⟩
theorem Tiles.step {lo n : Int} {p : Int × Int} {T : List (Int × Int)} (h : Tiles lo n (p :: T)) (hp : p.1 = lo) : Tiles (lo + p.2) n T := by
  have ho := List.pairwise_cons.1 h.off
  refine ⟨fun q hq => ?_, ho.2, fun x h0 h1 => ?_⟩
  · have h1 := h.bd q (List.mem_cons_of_mem _ hq)
    have h2 := ho.1 q hq
    unfold Off at h2
    omega
  · have hb := h.bd p List.mem_cons_self
    obtain ⟨q, hq, h2, h3⟩ := h.cov x (by omega) h1
    rcases List.mem_cons.1 hq with rfl | hq
    · omega
    · exact ⟨q, hq, h2, h3⟩
theorem Tiles.nil {lo n : Int} {T : List (Int × Int)} (h : Tiles lo n T) (hn : n ≤ lo) : T = [] := by
  cases T with
  | nil => rfl
  | cons p T => have := h.bd p List.mem_cons_self; omega
theorem Tiles.first {lo n : Int} {T : List (Int × Int)} (h : Tiles lo n T) (hn : lo < n) : ∃ p ∈ T, p.1 = lo := by
  obtain ⟨p, hp, h1, h2⟩ := h.cov lo (Int.le_refl _) hn
  have := h.bd p hp
  exact ⟨p, hp, by omega⟩

/-- The lengths of all targets add up to the length. -/
theorem tiles_sum : ∀ (k : Nat) (lo n : Int) (T : List (Int × Int)), T.length = k → lo ≤ n → Tiles lo n T → (T.map (·.2)).sum = n - lo := by
  intro k
  induction k with
  | zero =>
    intro lo n T hl hn h
    obtain rfl := List.eq_nil_of_length_eq_zero hl
    by_cases hlt : lo < n
    · obtain ⟨p, hp, _⟩ := h.first hlt
      simp at hp
    · simp; omega
  | succ k ih =>
    intro lo n T hl hn h
    have hlt : lo < n := by
      by_cases hlt : lo < n
      · exact hlt
      · have := h.nil (by omega)
        subst this
        simp at hl
    obtain ⟨p, hp, hp1⟩ := h.first hlt
    obtain ⟨A, B, rfl⟩ := List.append_of_mem hp
    have hperm : (p :: (A ++ B)).Perm (A ++ p :: B) := List.perm_middle.symm
    have h1 := h.perm hperm
    have h2 := ih (lo + p.2) n (A ++ B) (by simp at hl ⊢; omega) (by have := h1.bd p List.mem_cons_self; omega) (h1.step hp1)
    have h3 : ((A ++ p :: B).map (·.2)).sum = p.2 + ((A ++ B).map (·.2)).sum := by
      simp
      omega
    rw [h3, h2]
    omega

/-- Each target begins where the one before it ends. -/
def Chain (n : Int) : Int → List (Int × Int) → Prop
  | lo, [] => lo = n
  | lo, p :: T => p.1 = lo ∧ Chain n (lo + p.2) T
theorem tiles_chain {n : Int} : ∀ (T : List (Int × Int)) (lo : Int), T.Pairwise (fun p q => p.1 ≤ q.1) → lo ≤ n → Tiles lo n T → Chain n lo T := by
  intro T
  induction T with
  | nil =>
    intro lo _ hn h
    by_cases hlt : lo < n
    · obtain ⟨p, hp, _⟩ := h.first hlt
      simp at hp
    · show lo = n
      omega
  | cons p T ih =>
    intro lo hs hn h
    have hb := h.bd p List.mem_cons_self
    obtain ⟨q, hq, hq1⟩ := h.first (by omega)
    have hp1 : p.1 = lo := by
      rcases List.mem_cons.1 hq with rfl | hq
      · exact hq1
      · have := (List.pairwise_cons.1 hs).1 q hq
        omega
    exact ⟨hp1, ih _ (List.pairwise_cons.1 hs).2 (by omega) (h.step hp1)⟩
theorem chain_le {n : Int} : ∀ (T : List (Int × Int)) (lo : Int), (∀ p ∈ T, 1 ≤ p.2) → Chain n lo T → lo ≤ n := by
  intro T
  induction T with
  | nil => intro lo _ h; exact Int.le_of_eq h
  | cons p T ih =>
    intro lo h1 h
    have := ih _ (fun q hq => h1 q (List.mem_cons_of_mem _ hq)) h.2
    have := h1 p List.mem_cons_self
    omega
theorem chain_tiles {n : Int} : ∀ (T : List (Int × Int)) (lo : Int), (∀ p ∈ T, 1 ≤ p.2) → Chain n lo T → Tiles lo n T := by
  intro T
  induction T with
  | nil =>
    intro lo _ h
    have : lo = n := h
    exact ⟨fun p hp => by simp at hp, List.Pairwise.nil, fun x h0 h1 => by omega⟩
  | cons p T ih =>
    intro lo h1 h
    have hi := ih _ (fun q hq => h1 q (List.mem_cons_of_mem _ hq)) h.2
    have hle := chain_le T _ (fun q hq => h1 q (List.mem_cons_of_mem _ hq)) h.2
    have hp := h1 p List.mem_cons_self
    have hp1 := h.1
    refine ⟨fun q hq => ?_, List.pairwise_cons.2 ⟨fun q hq => ?_, hi.off⟩, fun x h0 h2 => ?_⟩
    · rcases List.mem_cons.1 hq with rfl | hq
      · omega
      · have := hi.bd q hq
        omega
    · have := hi.bd q hq
      unfold Off
      omega
    · by_cases hx : x < lo + p.2
      · exact ⟨p, List.mem_cons_self, by omega, by omega⟩
      · obtain ⟨q, hq, h3⟩ := hi.cov x (by omega) h2
        exact ⟨q, List.mem_cons_of_mem _ hq, h3⟩

/-- The smallest offset that belongs to no target. -/
structure Gap (n : Int) (T : List (Int × Int)) (g : Int) : Prop where
  lo : 0 ≤ g
  hi : g < n
  no : ¬ Cov T g
  yes : ∀ x, 0 ≤ x → x < g → Cov T x
theorem Gap.unique {n : Int} {T : List (Int × Int)} {g g' : Int} (h : Gap n T g) (h' : Gap n T g') : g = g' := by
  have h1 : ¬ g < g' := fun hlt => h.no (h'.yes g h.lo hlt)
  have h2 : ¬ g' < g := fun hlt => h'.no (h.yes g' h'.lo hlt)
  omega
theorem gap_from {n : Int} {T : List (Int × Int)} : ∀ (k : Nat) (lo : Int), 0 ≤ lo → (n - lo).toNat = k → (∀ x, 0 ≤ x → x < lo → Cov T x) → (∃ x, lo ≤ x ∧ x < n ∧ ¬ Cov T x) → ∃ g, Gap n T g := by
  intro k
  induction k with
  | zero => intro lo h0 hk _ ⟨x, h1, h2, _⟩; omega
  | succ k ih =>
    intro lo h0 hk hy ⟨x, h1, h2, h3⟩
    by_cases hc : Cov T lo
    · refine ih (lo + 1) (by omega) (by omega) (fun y hy0 hy1 => ?_) ⟨x, ?_, h2, h3⟩
      · by_cases hyl : y < lo
        · exact hy y hy0 hyl
        · obtain rfl : y = lo := by omega
          exact hc
      · by_cases hxl : x = lo
        · subst hxl; exact absurd hc h3
        · omega
    · exact ⟨lo, h0, by omega, hc, hy⟩
theorem gap_exists {n : Int} {T : List (Int × Int)} (h : ∃ x, 0 ≤ x ∧ x < n ∧ ¬ Cov T x) : ∃ g, Gap n T g :=
  gap_from _ 0 (Int.le_refl _) rfl (fun x h0 h1 => by omega) h
theorem gap_cand {n : Int} {T : List (Int × Int)} {g : Int} (h : Gap n T g) : g = 0 ∨ ∃ p ∈ T, g = p.1 + p.2 := by
  by_cases h0 : g = 0
  · exact .inl h0
  · obtain ⟨p, hp, h1, h2⟩ := h.yes (g - 1) (by have := h.lo; omega) (by omega)
    refine .inr ⟨p, hp, ?_⟩
    have h3 : ¬ (p.1 ≤ g ∧ g < p.1 + p.2) := fun h4 => h.no ⟨p, hp, h4⟩
    omega
/-- A target is taken away. -/
theorem gap_remove {n : Int} {A B : List (Int × Int)} {c : Int × Int} (h : Tiles 0 n (A ++ c :: B)) : Gap n (A ++ B) c.1 := by
  have hperm : (c :: (A ++ B)).Perm (A ++ c :: B) := List.perm_middle.symm
  have h1 := h.perm hperm
  have hb := h1.bd c List.mem_cons_self
  have ho := (List.pairwise_cons.1 h1.off).1
  refine ⟨hb.1, by omega, fun ⟨q, hq, h2, h3⟩ => ?_, fun x h0 hx => ?_⟩
  · have := ho q hq
    have := h1.bd q (List.mem_cons_of_mem _ hq)
    unfold Off at *
    omega
  · obtain ⟨q, hq, h2, h3⟩ := h1.cov x h0 (by omega)
    rcases List.mem_cons.1 hq with rfl | hq
    · omega
    · exact ⟨q, hq, h2, h3⟩

/-- The walk over sorted targets: where it stands still. -/
def scan : Int → List (Int × Int) → Int
  | lo, [] => lo
  | lo, p :: T => if lo < p.1 then lo else scan (p.1 + p.2) T
theorem scan_spec : ∀ (T : List (Int × Int)) (lo : Int), T.Pairwise (fun p q => p.1 ≤ q.1) → T.Pairwise Off → (∀ p ∈ T, lo ≤ p.1 ∧ 1 ≤ p.2) → lo ≤ scan lo T ∧ ¬ Cov T (scan lo T) ∧ ∀ x, lo ≤ x → x < scan lo T → Cov T x := by
  intro T
  induction T with
  | nil => intro lo _ _ _; exact ⟨Int.le_refl _, fun ⟨p, hp, _⟩ => by simp at hp, fun x h0 h1 => by simp only [scan] at h1; omega⟩
  | cons p T ih =>
    intro lo hs ho hb
    have hp := hb p List.mem_cons_self
    have hs' := List.pairwise_cons.1 hs
    have ho' := List.pairwise_cons.1 ho
    unfold scan
    by_cases hlt : lo < p.1
    · rw [if_pos hlt]
      refine ⟨Int.le_refl _, fun ⟨q, hq, h1, h2⟩ => ?_, fun x h0 h1 => by omega⟩
      rcases List.mem_cons.1 hq with rfl | hq
      · omega
      · have := hs'.1 q hq
        omega
    · rw [if_neg hlt]
      have hpl : p.1 = lo := by omega
      obtain ⟨h1, h2, h3⟩ := ih (p.1 + p.2) hs'.2 ho'.2 (fun q hq => by
        have h4 := ho'.1 q hq
        have h5 := hs'.1 q hq
        have h6 := hb q (List.mem_cons_of_mem _ hq)
        unfold Off at h4
        omega)
      refine ⟨by omega, fun ⟨q, hq, h4, h5⟩ => ?_, fun x h0 hx => ?_⟩
      · rcases List.mem_cons.1 hq with rfl | hq
        · omega
        · exact h2 ⟨q, hq, h4, h5⟩
      · by_cases hxp : x < p.1 + p.2
        · exact ⟨p, List.mem_cons_self, by omega, hxp⟩
        · obtain ⟨q, hq, h4⟩ := h3 x (by omega) hx
          exact ⟨q, List.mem_cons_of_mem _ hq, h4⟩
/-- Nothing is left open, or the walk shows the smallest gap. -/
theorem scan_gap {n : Int} {T : List (Int × Int)} (hs : T.Pairwise (fun p q => p.1 ≤ q.1)) (ho : T.Pairwise Off) (hb : ∀ p ∈ T, 0 ≤ p.1 ∧ 1 ≤ p.2) (h : scan 0 T < n) : Gap n T (scan 0 T) := by
  obtain ⟨h1, h2, h3⟩ := scan_spec T 0 hs ho hb
  exact ⟨h1, h, h2, h3⟩
theorem scan_full {n : Int} {T : List (Int × Int)} (hs : T.Pairwise (fun p q => p.1 ≤ q.1)) (ho : T.Pairwise Off) (hb : ∀ p ∈ T, 0 ≤ p.1 ∧ 1 ≤ p.2 ∧ p.1 + p.2 ≤ n) (h : n ≤ scan 0 T) : Tiles 0 n T := by
  obtain ⟨h1, h2, h3⟩ := scan_spec T 0 hs ho (fun p hp => ⟨(hb p hp).1, (hb p hp).2.1⟩)
  exact ⟨hb, ho, fun x h0 hx => h3 x h0 (by omega)⟩

/-- The overlap of two targets. -/
theorem off_iff {p q : Int × Int} (hp : 1 ≤ p.2) (hq : 1 ≤ q.2) : Off p q ↔ min (p.1 + p.2) (q.1 + q.2) ≤ max p.1 q.1 := by
  unfold Off
  omega
end Go.Proofs.Ytgmjppjgbalapaa

namespace Go.Proofs.Ytgmjppjgbalapaa
open Go.ChangeShapes Go.WideShapes Go.RowKit Go.Deep Go.Joins
set_option linter.unusedVariables false

/-- A command, with the place of its data. -/
structure Cmd where
  k : Int
  t : Int
  f : Int
  n : Int
  l : List Int
  a : Option Addr
  cap : Nat
def Cmd.cells (c : Cmd) : List Value := [.int .i64 c.k, .int .i64 c.t, .int .i64 c.f, .int .i64 c.n, .slice c.a c.l.length c.cap]
/-- What is known of a command that came in. -/
structure CmdOK (w : World) (c : Cmd) : Prop where
  k : I64 c.k
  t : I64 c.t
  f : I64 c.f
  n : I64 c.n
  b : BytesIn w c.a c.l c.cap
  o : OkB c.l
theorem CmdOK.below {w w' : World} {c : Cmd} (h : CmdOK w c) (hb : Below w.heap.size w w') : CmdOK w' c := ⟨h.k, h.t, h.f, h.n, h.b.below hb, h.o⟩

section
variable {H : Type} {enc : TypeId × Value → H} {P : Program} {w : World} {base : Nat} {spare : Nat → Bool} {held : Bool}
set_option maxRecDepth 100000 in
theorem open_cells5 {t : TypeId} {f0 f1 f2 f3 f4 : Field} {fuel : Nat} {cs : List Value} {x : DataW H × List MemPlace} (hs : P.underlying t = some (.struct #[f0, f1, f2, f3, f4])) (hone : oneCellFields P #[f0, f1, f2, f3, f4] = true) (hC : P.cellsOf t = 5)
    (hf : DataW.trod enc P w base spare held fuel t cs = some x) :
    ∃ (v0 v1 v2 v3 v4 : Value) (y0 y1 y2 y3 y4 : DataW H × List MemPlace) (n : Nat), cs = [v0, v1, v2, v3, v4] ∧ x.1 = .agg [y0.1, y1.1, y2.1, y3.1, y4.1] ∧
      DataW.trod enc P w base spare held n f0.type [v0] = some y0 ∧ DataW.trod enc P w base spare held n f1.type [v1] = some y1 ∧ DataW.trod enc P w base spare held n f2.type [v2] = some y2 ∧ DataW.trod enc P w base spare held n f3.type [v3] = some y3 ∧ DataW.trod enc P w base spare held n f4.type [v4] = some y4 := by
  obtain ⟨y0, y1, y2, y3, y4, n, hx, hl, h0, h1, h2, h3, h4⟩ := trod_struct5 hs hf
  obtain ⟨o0, k0⟩ := hone_of hone 0 f0 rfl
  obtain ⟨o1, k1⟩ := hone_of hone 1 f1 rfl
  obtain ⟨o2, k2⟩ := hone_of hone 2 f2 rfl
  obtain ⟨o3, k3⟩ := hone_of hone 3 f3 rfl
  obtain ⟨o4, k4⟩ := hone_of hone 4 f4 rfl
  rw [hC] at hl
  match cs, hl with
  | [c0, c1, c2, c3, c4], _ =>
    exact ⟨c0, c1, c2, c3, c4, y0, y1, y2, y3, y4, n, rfl, by rw [hx], by simpa [o0, k0] using h0, by simpa [o1, k1] using h1, by simpa [o2, k2] using h2, by simpa [o3, k3] using h3, by simpa [o4, k4] using h4⟩
end

set_option maxRecDepth 100000 in
theorem cmd_of_trod {H : Type} {enc : TypeId × Value → H} {w : World} {base : Nat} {held : Bool} {fuel : Nat} {cs : List Value} {x : DataW H × List MemPlace} (hf : DataW.trod enc Try.prog w base (fun _ => true) held fuel 26 cs = some x) :
    ∃ c : Cmd, cs = c.cells ∧ CmdOK w c := by
  obtain ⟨v0, v1, v2, v3, v4, y0, y1, y2, y3, y4, m, rfl, hx, hy0, hy1, hy2, hy3, hy4⟩ := open_cells5 Try.underlying26 (by kernel_rfl) (by kernel_rfl) hf
  obtain ⟨k, ek, _, wk⟩ := DataW.trod_int Try.underlying3 hy0
  obtain ⟨t, et, _, wt⟩ := DataW.trod_int Try.underlying3 hy1
  obtain ⟨f, ef, _, wf⟩ := DataW.trod_int Try.underlying3 hy2
  obtain ⟨n, en, _, wn⟩ := DataW.trod_int Try.underlying3 hy3
  obtain ⟨a, len, cap, e4⟩ := slice_form Try.underlying24 hy4
  simp only [List.cons.injEq, and_true] at ek et ef en e4
  subst ek et ef en e4
  have h4 : DataW.Trod enc Try.prog w base (fun _ => true) held 24 (.slice a len cap) y4.1 y4.2 := ⟨m, by simpa [Value.cells] using hy4⟩
  obtain ⟨l, rfl, hb, hok⟩ := open_bytes_wf h4
  exact ⟨⟨k, t, f, n, l, a, cap⟩, rfl, bounds_i64 wk, bounds_i64 wt, bounds_i64 wf, bounds_i64 wn, hb, hok⟩

/-- A slice of commands that came in. -/
structure CmdsIn (w : World) (ca : Option Addr) (cs : List Cmd) (ccap : Nat) : Prop where
  len : cs.length ≤ ccap
  capb : ccap ≤ 9223372036854775807
  cells : 0 < cs.length → ∃ b o, ca = some ⟨b, o, none⟩ ∧ ∀ (i : Nat) (c : Cmd), cs[i]? = some c → ∀ (j : Nat) (u : Value), c.cells[j]? = some u → w.cell? ⟨b, o + i * 5 + j, none⟩ = some u
  ok : ∀ c ∈ cs, CmdOK w c
  nil : ca = none → ccap = 0
theorem CmdsIn.below {w w' : World} {ca : Option Addr} {cs : List Cmd} {ccap : Nat} (h : CmdsIn w ca cs ccap) (hb : Below w.heap.size w w') : CmdsIn w' ca cs ccap :=
  ⟨h.len, h.capb, fun hp => by
    obtain ⟨b, o, rfl, hc⟩ := h.cells hp
    exact ⟨b, o, rfl, fun i c hi j u hu => (hb.cell (p := ⟨b, o + i * 5 + j, none⟩) (World.block_lt_of_cell? _ _ (hc i c hi j u hu))).trans (hc i c hi j u hu)⟩, fun c hc => (h.ok c hc).below hb, h.nil⟩
/-- The five cells of one of them. -/
theorem CmdsIn.at {w : World} {ca : Option Addr} {cs : List Cmd} {ccap : Nat} (h : CmdsIn w ca cs ccap) {i : Nat} {c : Cmd} (hi : cs[i]? = some c) : ∃ b o, ca = some ⟨b, o, none⟩ ∧ w.cell? ⟨b, o + i * 5, none⟩ = some (.int .i64 c.k) ∧ w.cell? ⟨b, o + i * 5 + 1, none⟩ = some (.int .i64 c.t) ∧ w.cell? ⟨b, o + i * 5 + 2, none⟩ = some (.int .i64 c.f) ∧ w.cell? ⟨b, o + i * 5 + 3, none⟩ = some (.int .i64 c.n) ∧ w.cell? ⟨b, o + i * 5 + 4, none⟩ = some (.slice c.a c.l.length c.cap) := by
  obtain ⟨b, o, ha, hc⟩ := h.cells (by have := (List.getElem?_eq_some_iff.1 hi).1; omega)
  exact ⟨b, o, ha, hc i c hi 0 _ rfl, hc i c hi 1 _ rfl, hc i c hi 2 _ rfl, hc i c hi 3 _ rfl, hc i c hi 4 _ rfl⟩

set_option maxRecDepth 100000 in
theorem open_cmds {H : Type} {enc : TypeId × Value → H} {w : World} {base : Nat} {held : Bool} {t : TypeId} (ht : Try.prog.underlying t = some (.slice 26)) {a : Option Addr} {len cap : Nat} {d : DataW H} {p : List MemPlace}
    (h : DataW.Trod enc Try.prog w base (fun _ => true) held t (.slice a len cap) d p) : ∃ cs : List Cmd, cs.length = len ∧ CmdsIn w a cs cap := by
  have ce : Try.prog.cellsOf 26 = 5 := by kernel_rfl
  obtain ⟨fuel, hf⟩ := h
  rcases open_slice ht hf with ⟨hcs, _⟩ | ⟨ad, len', cap', m, n, D, Pl, hcs, _, hl, hm, hmm, _, hi⟩
  · simp [Value.cells] at hcs
    obtain ⟨rfl, rfl, rfl⟩ := hcs
    exact ⟨[], rfl, by simp, by omega, fun h => absurd h (by simp), fun c hc => by simp at hc, fun _ => rfl⟩
  · simp [Value.cells] at hcs
    obtain ⟨rfl, rfl, rfl⟩ := hcs
    simp at hmm
    subst hmm
    have hex : ∀ i, i < len → ∃ c : Cmd, (∀ j u, c.cells[j]? = some u → w.cell? (ad.add (i * 5 + j)) = some u) ∧ CmdOK w c := fun i hlt => by
      obtain ⟨cs', h1', h2⟩ := hi i (by omega)
      rw [ce] at h1'
      obtain ⟨_, hlen, hat⟩ := World.cells?_some h1'
      obtain ⟨c, rfl, hc⟩ := cmd_of_trod h2
      refine ⟨c, fun j u hu => ?_, hc⟩
      have hj : j < 5 := by have := (List.getElem?_eq_some_iff.1 hu).1; rwa [hlen] at this
      have := hat j hj
      rw [add_add] at this
      rw [this, hu]
    have hinh : Nonempty Cmd := ⟨⟨0, 0, 0, 0, [], none, 0⟩⟩
    obtain ⟨g, hg⟩ : ∃ g : Nat → Cmd, ∀ i, i < len → (∀ j u, (g i).cells[j]? = some u → w.cell? (ad.add (i * 5 + j)) = some u) ∧ CmdOK w (g i) :=
      ⟨fun i => if h : i < len then Classical.choose (hex i h) else Classical.choice hinh, fun i hi => by simp only [hi, dif_pos]; exact Classical.choose_spec (hex i hi)⟩
    refine ⟨(List.range len).map g, by simp, by simp; exact hl, by unfold maxLen at hm; omega, fun hp => ?_, fun c hc => ?_, fun h => by cases h⟩
    · have hp' : 0 < len := by simpa using hp
      obtain ⟨b, o, s⟩ := ad
      have hsp : s = none := by simpa [Addr.add] using World.cell?_spot ((hg 0 hp').1 0 _ rfl)
      subst hsp
      refine ⟨b, o, rfl, fun i c hi j u hu => ?_⟩
      have hil : i < len := by have := (List.getElem?_eq_some_iff.1 hi).1; simpa using this
      rw [List.getElem?_map, List.getElem?_range hil] at hi
      simp at hi
      subst hi
      have := (hg i hil).1 j u hu
      rw [Addr.add_mid] at this
      rw [Nat.add_assoc]
      exact this
    · obtain ⟨i, hi, rfl⟩ := List.mem_map.1 hc
      exact (hg i (List.mem_range.1 hi)).2
end Go.Proofs.Ytgmjppjgbalapaa

namespace Go.Proofs.Ytgmjppjgbalapaa
open Go.ChangeShapes Go.WideShapes Go.RowKit Go.Deep Go.Joins
set_option linter.unusedVariables false

/-- The cells of a delta. -/
def deltaL (o n : Int) (x y : List Int) (s : Value) : List Value := .int .i64 o :: .int .i64 n :: (x.map (Value.int .u8) ++ (y.map (Value.int .u8) ++ [s]))
def deltaA (o n : Int) (x y : List Int) (s : Value) : Array Value := (deltaL o n x y s).toArray
def intZ : Value → Int
  | .int _ n => n
  | _ => 0
theorem take1 {L : List Value} {k : Nat} {v : Value} (h : (L.drop k).take 1 = [v]) : L[k]? = some v := by
  have := congrArg (·[0]?) h
  simpa [List.getElem?_take, List.getElem?_drop] using this

section
variable {H : Type} {enc : TypeId × Value → H} {w : World} {base : Nat} {held : Bool}
set_option maxRecDepth 100000 in
theorem open_u8s {t : TypeId} {fuel : Nat} {L : List Value} {x : DataW H × List MemPlace} (ht : Try.prog.underlying t = some (.array 32 5)) (h : DataW.trod enc Try.prog w base (fun _ => true) held fuel t L = some x) :
    ∃ l : List Int, l.length = 32 ∧ OkB l ∧ ∀ i, i < 32 → L[i]? = some (.int .u8 (l[i]?.getD 0)) := by
  obtain ⟨xs, m, _, _, _, hl, hel⟩ := DataW.trod_array ht h
  have c1 : Try.prog.cellsOf 5 = 1 := by kernel_rfl
  rw [c1] at hel
  have key : ∀ i, i < 32 → ∃ n : Int, L[i]? = some (.int .u8 n) ∧ 0 ≤ n ∧ n < 256 := fun i hi => by
    have he := hel i hi
    rw [List.getElem?_eq_getElem (by omega)] at he
    obtain ⟨n, hc, _, hw⟩ := DataW.trod_int Try.underlying5 he
    refine ⟨n, ?_, by have := bounds_u8 hw; omega⟩
    have := congrArg (·[0]?) hc
    simpa [List.getElem?_take, List.getElem?_drop] using this
  refine ⟨(List.range 32).map fun i => intZ (L[i]?.getD undef), by simp, fun z hz => ?_, fun i hi => ?_⟩
  · obtain ⟨i, hi, rfl⟩ := List.mem_map.1 hz
    obtain ⟨n, hn, h0, h1⟩ := key i (List.mem_range.1 hi)
    simp [hn, intZ, h0, h1]
  · obtain ⟨n, hn, _⟩ := key i hi
    rw [List.getElem?_map, List.getElem?_range hi]
    simp [hn, intZ]

set_option maxRecDepth 100000 in
theorem open_delta {r : Reach} {b0 : Nat} {t : TypeId} {f0 f1 f2 f3 f4 : Field} {v : Value} {d : DataW H} {p : List MemPlace} (hs : Try.prog.underlying t = some (.struct #[f0, f1, f2, f3, f4])) (ho : f0.offset = 0 ∧ f1.offset = 1 ∧ f2.offset = 2 ∧ f3.offset = 34 ∧ f4.offset = 66)
    (hc : Try.prog.cellsOf f0.type = 1 ∧ Try.prog.cellsOf f1.type = 1 ∧ Try.prog.cellsOf f2.type = 32 ∧ Try.prog.cellsOf f3.type = 32 ∧ Try.prog.cellsOf f4.type = 1 ∧ Try.prog.cellsOf t = 67)
    (h0 : Try.prog.underlying f0.type = some (.int .i64)) (h1 : Try.prog.underlying f1.type = some (.int .i64)) (h2 : Try.prog.underlying f2.type = some (.array 32 5)) (h3 : Try.prog.underlying f3.type = some (.array 32 5)) (h4 : Try.prog.underlying f4.type = some (.slice 26))
    (hv : Value.okWide Try.prog w r b0 t v) (h : DataW.Trod enc Try.prog w base (fun _ => true) held t v d p) :
    ∃ (o n : Int) (x y : List Int) (a : Option Addr) (cs : List Cmd) (cap : Nat), v = .agg (deltaA o n x y (.slice a cs.length cap)) ∧ (I64 o ∧ I64 n) ∧ (x.length = 32 ∧ OkB x) ∧ (y.length = 32 ∧ OkB y) ∧ CmdsIn w a cs cap := by
  obtain ⟨vs, rfl, hsz⟩ := okWide_struct hs hv
  obtain ⟨o0, o1, o2, o3, o4⟩ := ho
  obtain ⟨k0, k1, k2, k3, k4, kt⟩ := hc
  obtain ⟨fuel, hf⟩ := h
  obtain ⟨y0, y1, y2, y3, y4, m, _, hl, t0, t1, t2, t3, t4⟩ := trod_struct5 hs hf
  rw [o0, k0] at t0
  rw [o1, k1] at t1
  rw [o2, k2] at t2
  rw [o3, k3] at t3
  rw [o4, k4] at t4
  rw [kt] at hl hsz
  simp only [Value.cells] at hl t0 t1 t2 t3 t4
  obtain ⟨L, hL⟩ : ∃ L, L = vs.toList := ⟨_, rfl⟩
  rw [← hL] at hl t0 t1 t2 t3 t4
  obtain ⟨o, eo, _, wo⟩ := DataW.trod_int h0 t0
  obtain ⟨n, en, _, wn⟩ := DataW.trod_int h1 t1
  obtain ⟨x, hx, okx, ex⟩ := open_u8s h2 t2
  obtain ⟨y, hy, oky, ey⟩ := open_u8s h3 t3
  obtain ⟨a, len, cap, ea⟩ := slice_form h4 t4
  have t4' : DataW.Trod enc Try.prog w base (fun _ => true) held f4.type (.slice a len cap) y4.1 y4.2 := ⟨m, by rw [ea] at t4; simpa [Value.cells] using t4⟩
  obtain ⟨cs, rfl, hcs⟩ := open_cmds h4 t4'
  have q0 := take1 eo
  have q1 := take1 en
  have q4 := take1 ea
  have q2 : ∀ i, i < 32 → L[2 + i]? = some (.int .u8 (x[i]?.getD 0)) := fun i hi => by
    have := ex i hi
    rwa [List.getElem?_take, if_pos hi, List.getElem?_drop] at this
  have q3 : ∀ i, i < 32 → L[34 + i]? = some (.int .u8 (y[i]?.getD 0)) := fun i hi => by
    have := ey i hi
    rwa [List.getElem?_take, if_pos hi, List.getElem?_drop] at this
  refine ⟨o, n, x, y, a, cs, cap, ?_, ⟨bounds_i64 wo, bounds_i64 wn⟩, ⟨hx, okx⟩, ⟨hy, oky⟩, hcs⟩
  congr 1
  apply Array.toList_inj.1
  rw [← hL]
  unfold deltaA deltaL
  apply List.ext_getElem?
  intro i
  match i with
  | 0 => rw [q0]; rfl
  | 1 => rw [q1]; rfl
  | i + 2 =>
    simp only [List.getElem?_cons_succ]
    by_cases hi : i < 32
    · rw [List.getElem?_append_left (by simpa [hx] using hi), List.getElem?_map]
      have := q2 i hi
      rw [Nat.add_comm] at this
      rw [this, List.getElem?_eq_getElem (by omega : i < x.length)]
      rfl
    · rw [List.getElem?_append_right (by simpa [hx] using hi), List.length_map, hx]
      by_cases hi2 : i - 32 < 32
      · rw [List.getElem?_append_left (by simpa [hy] using hi2), List.getElem?_map]
        have := q3 (i - 32) hi2
        rw [show 34 + (i - 32) = i + 2 by omega] at this
        rw [this, List.getElem?_eq_getElem (by omega : i - 32 < y.length)]
        rfl
      · rw [List.getElem?_append_right (by simpa [hy] using hi2), List.length_map, hy]
        by_cases hi3 : i = 64
        · subst hi3
          exact q4
        · rw [List.getElem?_eq_none (by omega), List.getElem?_eq_none (by simp; omega)]
end
end Go.Proofs.Ytgmjppjgbalapaa

namespace Go.Proofs.Ytgmjppjgbalapaa
open Go.Proofs.Ytgmjppjgbalapaa.Plain01
set_option linter.unusedVariables false

/-- How many bytes a command writes; which; its own error code. -/
def Cmd.w (c : Cmd) : Int := wlen c.k c.n c.l.length
def Cmd.tgt (c : Cmd) : Int × Int := (c.t, c.w)
def Cmd.code (c : Cmd) : Int := chk c.k c.t c.f c.n c.l.length
/-- The error code of a command of a delta. -/
def single (o n : Int) (c : Cmd) : Int := if c.code ≠ 0 then c.code else if c.k = 1 ∧ o < c.f + c.n then 5 else if n < c.t + c.w then 6 else 0
def LensBad (o n : Int) : Prop := o < 0 ∨ n < 0 ∨ 4611686018427387903 < o ∨ 4611686018427387903 < n
/-- A command before it in the list has bytes in common with it. -/
def Over (cs : List Cmd) (i : Nat) : Prop := ∃ j a b, j < i ∧ cs[i]? = some a ∧ cs[j]? = some b ∧ ¬ Off a.tgt b.tgt
def AllOK (o n : Int) (cs : List Cmd) : Prop := ∀ c ∈ cs, single o n c = 0

def RefSpec (o n : Int) (cs : List Cmd) (e at_ : Int) : Prop :=
  (LensBad o n ∧ e = 2 ∧ at_ = -1) ∨
  (¬ LensBad o n ∧ ∃ (i : Nat) (c : Cmd), cs[i]? = some c ∧ single o n c ≠ 0 ∧ (∀ (j : Nat) (c' : Cmd), j < i → cs[j]? = some c' → single o n c' = 0) ∧ e = single o n c ∧ at_ = i) ∨
  (¬ LensBad o n ∧ AllOK o n cs ∧ ∃ i : Nat, Over cs i ∧ (∀ j, j < i → ¬ Over cs j) ∧ e = 4 ∧ at_ = i) ∨
  (¬ LensBad o n ∧ AllOK o n cs ∧ (∀ i, ¬ Over cs i) ∧ ∃ g, Gap n (cs.map Cmd.tgt) g ∧ e = 3 ∧ at_ = g) ∨
  (¬ LensBad o n ∧ AllOK o n cs ∧ (∀ i, ¬ Over cs i) ∧ (∀ x, 0 ≤ x → x < n → Cov (cs.map Cmd.tgt) x) ∧ e = 0 ∧ at_ = 0)

theorem RefSpec.unique {o n : Int} {cs : List Cmd} {e a e' a' : Int} (h : RefSpec o n cs e a) (h' : RefSpec o n cs e' a') : e = e' ∧ a = a' := by
  have hno : ∀ (i : Nat) (c : Cmd), cs[i]? = some c → single o n c ≠ 0 → AllOK o n cs → False := fun i c hc hs ha => hs (ha c (List.mem_of_getElem? hc))
  rcases h with ⟨b, rfl, rfl⟩ | ⟨b, i, c, hc, hs, hf, rfl, rfl⟩ | ⟨b, ha, i, ho, hf, rfl, rfl⟩ | ⟨b, ha, hno1, g, hg, rfl, rfl⟩ | ⟨b, ha, hno1, hcov, rfl, rfl⟩
  · rcases h' with ⟨_, rfl, rfl⟩ | ⟨b', _⟩ | ⟨b', _⟩ | ⟨b', _⟩ | ⟨b', _⟩
    · exact ⟨rfl, rfl⟩
    all_goals exact absurd b b'
  · rcases h' with ⟨b', _⟩ | ⟨_, i', c', hc', hs', hf', rfl, rfl⟩ | ⟨_, ha', _⟩ | ⟨_, ha', _⟩ | ⟨_, ha', _⟩
    · exact absurd b' b
    · have hii : i = i' := by
        rcases Nat.lt_trichotomy i i' with h1 | h1 | h1
        · exact absurd (hf' i c h1 hc) hs
        · exact h1
        · exact absurd (hf i' c' h1 hc') hs'
      subst hii
      obtain rfl := Option.some.inj (hc.symm.trans hc')
      exact ⟨rfl, rfl⟩
    all_goals exact (hno i c hc hs ha').elim
  · rcases h' with ⟨b', _⟩ | ⟨_, i', c', hc', hs', _⟩ | ⟨_, _, i', ho', hf', rfl, rfl⟩ | ⟨_, _, hn, _⟩ | ⟨_, _, hn, _⟩
    · exact absurd b' b
    · exact (hno i' c' hc' hs' ha).elim
    · have hii : i = i' := by
        rcases Nat.lt_trichotomy i i' with h1 | h1 | h1
        · exact absurd ho (hf' i h1)
        · exact h1
        · exact absurd ho' (hf i' h1)
      subst hii
      exact ⟨rfl, rfl⟩
    all_goals exact absurd ho (hn i)
  · rcases h' with ⟨b', _⟩ | ⟨_, i', c', hc', hs', _⟩ | ⟨_, _, i', ho', _⟩ | ⟨_, _, _, g', hg', rfl, rfl⟩ | ⟨_, _, _, hcov, _⟩
    · exact absurd b' b
    · exact (hno i' c' hc' hs' ha).elim
    · exact absurd ho' (hno1 i')
    · exact ⟨rfl, hg.unique hg'⟩
    · exact absurd (hcov _ hg.lo hg.hi) hg.no
  · rcases h' with ⟨b', _⟩ | ⟨_, i', c', hc', hs', _⟩ | ⟨_, _, i', ho', _⟩ | ⟨_, _, _, g', hg', _⟩ | ⟨_, _, _, _, rfl, rfl⟩
    · exact absurd b' b
    · exact (hno i' c' hc' hs' ha).elim
    · exact absurd ho' (hno1 i')
    · exact absurd (hcov _ hg'.lo hg'.hi) hg'.no
    · exact ⟨rfl, rfl⟩

/-- What a command without a fault is. -/
theorem single_ok {o n : Int} {c : Cmd} (h : single o n c = 0) : c.code = 0 ∧ (0 ≤ c.t ∧ 1 ≤ c.w ∧ c.t + c.w ≤ n) ∧ (c.k = 1 → 0 ≤ c.f ∧ c.f + c.n ≤ o) := by
  unfold single at h
  by_cases h0 : c.code ≠ 0
  · rw [if_pos h0] at h; exact absurd h h0
  · rw [if_neg h0] at h
    have h0' : c.code = 0 := Classical.byContradiction h0
    by_cases h1 : c.k = 1 ∧ o < c.f + c.n
    · rw [if_pos h1] at h; omega
    · rw [if_neg h1] at h
      by_cases h2 : n < c.t + c.w
      · rw [if_pos h2] at h; omega
      · refine ⟨h0', ?_, fun hk => ?_⟩
        · rcases chk_ok h0' with ⟨hk, hL, hn, o1, o2⟩ | ⟨hk, hf, hn, hL, o1⟩
          · have hw : c.w = c.n := by unfold Cmd.w wlen; rw [if_pos hk]
            obtain ⟨a0, a1, _⟩ := okE_iff.1 o1
            simp only at a0 a1
            rw [hw] at h2 ⊢
            omega
          · have hw : c.w = c.l.length := by unfold Cmd.w wlen; rw [if_neg (by omega)]
            obtain ⟨a0, a1, _⟩ := okE_iff.1 o1
            simp only at a0 a1
            rw [hw] at h2 ⊢
            omega
        · rcases chk_ok h0' with ⟨_, hL, hn, o1, o2⟩ | ⟨hk2, _⟩
          · obtain ⟨f0, _, _⟩ := okE_iff.1 o2
            simp only at f0
            omega
          · omega

theorem over_pairwise {cs : List Cmd} : (∀ i, ¬ Over cs i) ↔ (cs.map Cmd.tgt).Pairwise Off := by
  constructor
  · intro h
    rw [List.pairwise_map]
    rw [List.pairwise_iff_getElem]
    intro i j hi hj hij
    apply Classical.byContradiction
    intro hn
    exact h j ⟨i, cs[j], cs[i], hij, List.getElem?_eq_getElem hj, List.getElem?_eq_getElem hi, fun ho => hn ho.symm⟩
  · intro h i ⟨j, a, b, hji, ha, hb, hn⟩
    rw [List.pairwise_map, List.pairwise_iff_getElem] at h
    obtain ⟨hi, rfl⟩ := List.getElem?_eq_some_iff.1 ha
    obtain ⟨hj, rfl⟩ := List.getElem?_eq_some_iff.1 hb
    exact hn (h j i hj hi hji).symm

/-- A valid delta. -/
structure ValidD (o n : Int) (cs : List Cmd) : Prop where
  lens : ¬ LensBad o n
  all : AllOK o n cs
  tiles : Tiles 0 n (cs.map Cmd.tgt)
theorem single_code {o n : Int} {c : Cmd} (h : single o n c ≠ 0) : single o n c = 11 ∨ single o n c = 7 ∨ single o n c = 2 ∨ single o n c = 5 ∨ single o n c = 6 := by
  unfold single at h ⊢
  by_cases h0 : c.code ≠ 0
  · rw [if_pos h0] at h ⊢
    unfold Cmd.code chk at h ⊢
    by_cases c1 : c.k ≠ 1 ∧ c.k ≠ 2
    · rw [if_pos c1]; omega
    · rw [if_neg c1] at h ⊢
      by_cases c2 : wlen c.k c.n c.l.length = 0
      · rw [if_pos c2]; omega
      · rw [if_neg c2] at h ⊢
        by_cases c3 : okE (c.t, wlen c.k c.n c.l.length) = false
        · rw [if_pos c3]; omega
        · rw [if_neg c3] at h ⊢
          by_cases c4 : c.k = 1 ∧ (0 < c.l.length ∨ okE (c.f, c.n) = false)
          · rw [if_pos c4]; omega
          · rw [if_neg c4] at h ⊢
            by_cases c5 : c.k = 2 ∧ (c.f ≠ 0 ∨ c.n ≠ 0)
            · rw [if_pos c5]; omega
            · rw [if_neg c5] at h; exact absurd rfl h
  · rw [if_neg h0] at h ⊢
    by_cases h1 : c.k = 1 ∧ o < c.f + c.n
    · rw [if_pos h1]; omega
    · rw [if_neg h1] at h ⊢
      by_cases h2 : n < c.t + c.w
      · rw [if_pos h2]; omega
      · rw [if_neg h2] at h; exact absurd rfl h
theorem RefSpec.valid {o n : Int} {cs : List Cmd} {a : Int} (h : RefSpec o n cs 0 a) : ValidD o n cs ∧ a = 0 := by
  rcases h with ⟨_, h, _⟩ | ⟨_, i, c, _, hs, _, he, _⟩ | ⟨_, _, i, _, _, he, _⟩ | ⟨_, _, _, g, _, he, _⟩ | ⟨b, ha, hno, hcov, _, rfl⟩
  · omega
  · exact absurd he.symm hs
  · omega
  · omega
  · refine ⟨⟨b, ha, ?_, over_pairwise.1 hno, hcov⟩, rfl⟩
    intro p hp
    obtain ⟨c, hc, rfl⟩ := List.mem_map.1 hp
    exact (single_ok (ha c hc)).2.1
theorem ValidD.spec {o n : Int} {cs : List Cmd} (h : ValidD o n cs) : RefSpec o n cs 0 0 := .inr (.inr (.inr (.inr ⟨h.lens, h.all, over_pairwise.2 h.tiles.off, h.tiles.cov, rfl, rfl⟩)))
/-- The same commands in another order. -/
theorem ValidD.perm {o n : Int} {cs cs' : List Cmd} (h : ValidD o n cs) (hp : cs'.Perm cs) : ValidD o n cs' := ⟨h.lens, fun c hc => h.all c (hp.mem_iff.1 hc), h.tiles.perm (hp.map _)⟩
/-- One command is taken away. -/
theorem ValidD.less {o n : Int} {A B : List Cmd} {c : Cmd} (h : ValidD o n (A ++ c :: B)) : RefSpec o n (A ++ B) 3 c.t := by
  have ht := h.tiles
  rw [List.map_append, List.map_cons] at ht
  have hg := gap_remove ht
  refine .inr (.inr (.inr (.inl ⟨h.lens, fun x hx => h.all x ?_, over_pairwise.2 ?_, c.t, ?_, rfl, rfl⟩)))
  · rcases List.mem_append.1 hx with hx | hx
    · exact List.mem_append_left _ hx
    · exact List.mem_append_right _ (List.mem_cons_of_mem _ hx)
  · rw [List.map_append]
    refine ht.off.sublist ?_
    exact (List.Sublist.refl _).append (List.sublist_cons_self _ _)
  · rw [List.map_append]; exact hg
/-- One command is there twice. -/
theorem ValidD.more {o n : Int} {cs : List Cmd} {c : Cmd} (h : ValidD o n cs) (hc : c ∈ cs) : RefSpec o n (cs ++ [c]) 4 cs.length := by
  obtain ⟨j, hj⟩ := List.getElem?_of_mem hc
  have hjl := (List.getElem?_eq_some_iff.1 hj).1
  have hw := (single_ok (h.all c hc)).2.1
  refine .inr (.inr (.inl ⟨h.lens, fun x hx => ?_, cs.length, ⟨j, c, c, hjl, by simp, by rw [List.getElem?_append_left hjl]; exact hj, ?_⟩, fun i hi ⟨q, a, b, hq, ha, hb, hn⟩ => ?_, rfl, rfl⟩))
  · rcases List.mem_append.1 hx with hx | hx
    · exact h.all x hx
    · simp at hx; subst hx; exact h.all x hc
  · unfold Off Cmd.tgt
    simp only
    omega
  · rw [List.getElem?_append_left (by omega)] at ha hb
    exact over_pairwise.2 h.tiles.off i ⟨q, a, b, hq, ha, hb, hn⟩
end Go.Proofs.Ytgmjppjgbalapaa

namespace Go.Proofs.Ytgmjppjgbalapaa
open Go.Proofs.Ytgmjppjgbalapaa.Plain01
set_option linter.unusedVariables false

/-- A command writes a byte. -/
def Cmd.has (c : Cmd) (x : Int) : Prop := c.t ≤ x ∧ x < c.t + c.w
instance (c : Cmd) (x : Int) : Decidable (c.has x) := by unfold Cmd.has; exact inferInstance
theorem ValidD.one {o n : Int} {cs : List Cmd} (h : ValidD o n cs) {i j : Nat} {a b : Cmd} {x : Int} (ha : cs[i]? = some a) (hb : cs[j]? = some b) (hx : a.has x) (hy : b.has x) : i = j := by
  have hno := over_pairwise.2 h.tiles.off
  have key : ∀ (i j : Nat) (a b : Cmd), cs[i]? = some a → cs[j]? = some b → a.has x → b.has x → ¬ j < i := fun i j a b ha hb hx hy hji =>
    hno i ⟨j, a, b, hji, ha, hb, fun ho => by unfold Off Cmd.tgt at ho; unfold Cmd.has at hx hy; simp only at ho; omega⟩
  rcases Nat.lt_trichotomy i j with h1 | h1 | h1
  · exact absurd h1 (key j i b a hb ha hy hx)
  · exact h1
  · exact absurd h1 (key i j a b ha hb hx hy)
theorem ValidD.some {o n : Int} {cs : List Cmd} (h : ValidD o n cs) (x : Int) : (0 ≤ x ∧ x < n) ↔ ∃ (i : Nat) (c : Cmd), cs[i]? = some c ∧ c.has x := by
  constructor
  · intro ⟨h0, h1⟩
    obtain ⟨p, hp, h2⟩ := h.tiles.cov x h0 h1
    obtain ⟨c, hc, rfl⟩ := List.mem_map.1 hp
    obtain ⟨i, hi⟩ := List.getElem?_of_mem hc
    exact ⟨i, c, hi, h2⟩
  · intro ⟨i, c, hi, hx⟩
    have := (single_ok (h.all c (List.mem_of_getElem? hi))).2.1
    unfold Cmd.has at hx
    omega

/-- The bytes of all copies, of all literals. -/
def copied (cs : List Cmd) : Int := (cs.map fun c => if c.k = 1 then c.n else 0).sum
def literal (cs : List Cmd) : Int := (cs.map fun c => if c.k = 1 then 0 else (c.l.length : Int)).sum
theorem copied_literal (cs : List Cmd) : copied cs + literal cs = (cs.map Cmd.w).sum := by
  unfold copied literal
  induction cs with
  | nil => rfl
  | cons c cs ih =>
    simp only [List.map_cons, List.sum_cons]
    have hw : c.w = (if c.k = 1 then c.n else 0) + (if c.k = 1 then 0 else (c.l.length : Int)) := by
      unfold Cmd.w wlen
      split <;> omega
    rw [hw]
    omega
theorem ValidD.sum {o n : Int} {cs : List Cmd} (h : ValidD o n cs) : copied cs + literal cs = n := by
  rw [copied_literal]
  have h1 := tiles_sum _ 0 n (cs.map Cmd.tgt) rfl (by have := h.lens; unfold LensBad at this; omega) h.tiles
  rw [List.map_map] at h1
  rw [show (cs.map Cmd.w) = cs.map ((fun p : Int × Int => p.2) ∘ Cmd.tgt) from rfl, h1]
  omega
/-- Sums of some of the commands. -/
theorem ValidD.part {o n : Int} {cs : List Cmd} (h : ValidD o n cs) (k : Nat) : 0 ≤ copied (cs.take k) ∧ 0 ≤ literal (cs.take k) ∧ copied (cs.take k) + literal (cs.take k) ≤ n := by
  have hpos : ∀ l : List Cmd, (∀ c ∈ l, single o n c = 0) → 0 ≤ copied l ∧ 0 ≤ literal l := fun l => by
    induction l with
    | nil => intro _; exact ⟨by decide, by decide⟩
    | cons c l ih =>
      intro hl
      obtain ⟨h1, h2⟩ := ih (fun x hx => hl x (List.mem_cons_of_mem _ hx))
      have hw := (single_ok (hl c List.mem_cons_self)).2.1
      have hk : c.k = 1 → 0 ≤ c.n := fun hk => by
        have : c.w = c.n := by unfold Cmd.w wlen; rw [if_pos hk]
        omega
      unfold copied literal at *
      simp only [List.map_cons, List.sum_cons]
      refine ⟨?_, ?_⟩
      · split
        · rename_i hc; have := hk hc; omega
        · omega
      · split <;> omega
  have h1 := hpos (cs.take k) (fun c hc => h.all c (List.mem_of_mem_take hc))
  have h2 := hpos (cs.drop k) (fun c hc => h.all c (List.mem_of_mem_drop hc))
  have h3 := h.sum
  have e1 : copied cs = copied (cs.take k) + copied (cs.drop k) := by
    unfold copied
    rw [← List.sum_append, ← List.map_append, List.take_append_drop]
  have e2 : literal cs = literal (cs.take k) + literal (cs.drop k) := by
    unfold literal
    rw [← List.sum_append, ← List.map_append, List.take_append_drop]
  omega

/-- Ascending order of To; strictly. -/
def Asc (cs : List Cmd) : Prop := cs.Pairwise fun a b => a.t ≤ b.t
def AscS (cs : List Cmd) : Prop := cs.Pairwise fun a b => a.t < b.t
theorem ValidD.strict {o n : Int} {cs : List Cmd} (h : ValidD o n cs) (ha : Asc cs) : AscS cs := by
  have ho := h.tiles.off
  rw [List.pairwise_map] at ho
  unfold Asc AscS at *
  have hall := h.all
  clear h
  induction cs with
  | nil => exact List.Pairwise.nil
  | cons c cs ih =>
    rw [List.pairwise_cons] at *
    refine ⟨fun b hb => ?_, ih ha.2 ho.2 (fun x hx => hall x (List.mem_cons_of_mem _ hx))⟩
    have h1 := ha.1 b hb
    have h2 := ho.1 b hb
    have h3 := (single_ok (hall c List.mem_cons_self)).2.1
    have h4 := (single_ok (hall b (List.mem_cons_of_mem _ hb))).2.1
    unfold Off Cmd.tgt at h2
    simp only at h2
    omega
/-- There is one order. -/
theorem asc_unique : ∀ {l m : List Cmd}, l.Perm m → AscS l → AscS m → l = m := by
  intro l
  induction l with
  | nil => intro m hp _ _; exact (List.Perm.nil_eq hp)
  | cons a l ih =>
    intro m hp hl hm
    cases m with
    | nil => exact absurd hp (by simp)
    | cons b m =>
      unfold AscS at hl hm
      rw [List.pairwise_cons] at hl hm
      have hab : a = b := by
        have h1 : a ∈ b :: m := hp.mem_iff.1 List.mem_cons_self
        have h2 : b ∈ a :: l := hp.mem_iff.2 List.mem_cons_self
        rcases List.mem_cons.1 h1 with h1 | h1
        · exact h1
        · rcases List.mem_cons.1 h2 with h2 | h2
          · exact h2.symm
          · have := hm.1 a h1
            have := hl.1 b h2
            omega
      subst hab
      rw [ih (List.Perm.cons_inv hp) hl.2 hm.2]
/-- In sorted order each command begins where the one before it ends. -/
theorem ValidD.chain {o n : Int} {cs : List Cmd} (h : ValidD o n cs) (ha : Asc cs) : Chain n 0 (cs.map Cmd.tgt) :=
  tiles_chain _ 0 (by rw [List.pairwise_map]; exact ha) (by have := h.lens; unfold LensBad at this; omega) h.tiles

/-- An element comes in behind those that are not greater. -/
theorem insert_asc {out : List Cmd} {x : Cmd} {at_ : Nat} (hs : Asc out) (hle : at_ ≤ out.length) (h1 : ∀ (i : Nat) (c : Cmd), at_ ≤ i → out[i]? = some c → x.t < c.t) (h2 : at_ = 0 ∨ ∃ c, out[at_ - 1]? = some c ∧ c.t ≤ x.t) :
    Asc (out.take at_ ++ x :: out.drop at_) ∧ (out.take at_ ++ x :: out.drop at_).Perm (x :: out) := by
  refine ⟨?_, ?_⟩
  · unfold Asc at *
    rw [List.pairwise_append]
    refine ⟨hs.sublist (List.take_sublist _ _), ?_, fun a ha b hb => ?_⟩
    · rw [List.pairwise_cons]
      refine ⟨fun b hb => ?_, hs.sublist (List.drop_sublist _ _)⟩
      obtain ⟨i, hi⟩ := List.getElem?_of_mem hb
      rw [List.getElem?_drop] at hi
      have := h1 (at_ + i) b (by omega) hi
      omega
    · have hax : a.t ≤ x.t := by
        obtain ⟨i, hi⟩ := List.getElem?_of_mem ha
        have hil := (List.getElem?_eq_some_iff.1 hi).1
        rw [List.length_take] at hil
        rw [List.getElem?_take, if_pos (by omega)] at hi
        rcases h2 with h2 | ⟨c, hc, hcx⟩
        · omega
        · by_cases hie : i = at_ - 1
          · subst hie
            obtain rfl := Option.some.inj (hi.symm.trans hc)
            exact hcx
          · obtain ⟨hi1, rfl⟩ := List.getElem?_eq_some_iff.1 hi
            obtain ⟨hc1, rfl⟩ := List.getElem?_eq_some_iff.1 hc
            have := List.pairwise_iff_getElem.1 hs i (at_ - 1) hi1 hc1 (by omega)
            omega
      rcases List.mem_cons.1 hb with rfl | hb
      · exact hax
      · obtain ⟨i, hi⟩ := List.getElem?_of_mem hb
        rw [List.getElem?_drop] at hi
        have := h1 (at_ + i) b (by omega) hi
        omega
  · refine List.perm_middle.trans ?_
    rw [List.take_append_drop]
end Go.Proofs.Ytgmjppjgbalapaa
