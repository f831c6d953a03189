/- What DeltaSorts needs. -/
import Derived.Test.Ytifdeeaoaekokaa05SortD
import Derived.Test.Ytifdeeaoaekokaa05Totals
namespace Go.Proofs.Ytifdeeaoaekokaa
open Go.RowKit Go.Shelf Go.Proofs.Ytifdeeaoaekokaa.Plain01
set_option linter.unusedVariables false
set_option linter.unusedSimpArgs false

theorem asc_cores {cs ds : List Cmd} (h : cores ds = cores cs) (ha : Asc cs) : Asc ds := by
  unfold Asc at *
  have e : ∀ l : List Cmd, l.Pairwise (fun a b => a.t ≤ b.t) ↔ (cores l).Pairwise (fun a b => a.2.1 ≤ b.2.1) := fun l => by
    unfold cores
    rw [List.pairwise_map]
  rw [e, h, ← e]
  exact ha
def posOf (es : List Cmd) (k : Nat) : Int := ((es.take k).map Cmd.w).sum
theorem posOf_succ {es : List Cmd} {k : Nat} {c : Cmd} (h : es[k]? = some c) : posOf es (k + 1) = posOf es k + c.w := by unfold posOf; rw [take_succ_of h]; simp
theorem chain_pos {n : Int} : ∀ (es : List Cmd) (lo : Int), Chain n lo (es.map Cmd.tgt) → (∀ (k : Nat) (c : Cmd), es[k]? = some c → c.t = lo + posOf es k) ∧ lo + posOf es es.length = n := by
  intro es
  induction es with
  | nil => intro lo h; exact ⟨fun k c hc => by simp at hc, by simp [posOf]; exact h⟩
  | cons e es ih =>
    intro lo h
    obtain ⟨h1, h2⟩ := h
    obtain ⟨a1, a2⟩ := ih _ h2
    have hs : ∀ k, posOf (e :: es) (k + 1) = e.w + posOf es k := fun k => by simp [posOf]
    refine ⟨fun k c hc => ?_, ?_⟩
    · cases k with
      | zero => cases hc; simp [posOf]; exact h1
      | succ k =>
        have := a1 k c hc
        rw [hs, this]
        show lo + e.w + posOf es k = lo + (e.w + posOf es k)
        omega
    · rw [List.length_cons, hs, ← a2]
      show lo + (e.w + posOf es es.length) = lo + e.w + posOf es es.length
      omega
theorem sorted_pos {o n : Int} {es : List Cmd} (hv : ValidD o n es) (ha : Asc es) : (∀ (k : Nat) (c : Cmd), es[k]? = some c → c.t = posOf es k) ∧ posOf es es.length = n := by
  obtain ⟨h1, h2⟩ := chain_pos es 0 (hv.chain ha)
  exact ⟨fun k c hc => by have := h1 k c hc; omega, by omega⟩
theorem sorted_same {o n : Int} {cs ls ms : List Cmd} (hv : ValidD o n cs) (h1 : ls.Perm cs) (a1 : Asc ls) (h2 : ms.Perm cs) (a2 : Asc ms) : ls = ms :=
  asc_unique (h1.trans h2.symm) ((hv.perm h1).strict a1) ((hv.perm h2).strict a2)

theorem wpList_append_new {W : World} {base : Nat} (hbase : base ≤ W.heap.size) {v : Value} (hv : IsE5 base v W) (sp : Option Addr) (m c : Nat) (news : List Value) (hl : news.length = m * 5) (hnil : sp = none → m = 0) (hnews : ∀ ad, sp = some ad → ∀ j u, news[j]? = some u → W.cell? (ad.add j) = some u) (h1 : ∀ u ∈ news, u.oneCell' = true) (hm : m ≤ 1000000)
    {ops : Array Oper} {rest : List Oper} {o : Oper} {a : Act} {Q : Exit → Act → World → Prop} (sO xO : Operand)
    (hgd : o.guard = none) (ho : o.op = .call { callee := .builtin .append, args := #[sO, xO], argTypes := #[23, 23] }) (hs : a.eval sO = v) (hx : a.eval xO = .slice sp m c)
    (H : ∀ v' W', IsRow base m news v' W' → Below W.heap.size W W' → wpList Try.prog ops Q rest (a.put o.dst v') W') : wpList Try.prog ops Q (o :: rest) a W := by
  obtain ⟨v', W', hrun, hrow, hb⟩ := run_append_freshO hbase hv sp m c news hl hnil hnews h1 hm o.type
  refine wpList_plain hgd fun K hK => ?_
  unfold Oper.wp
  simp [execOp, ho, resolve, invoke, builtin, hs, hx, hrun, Result.andThen]
  exact hK _ _ (H v' W' hrow hb)
/-- A row lies on where another block is written. -/
theorem own_store {w : World} {base n : Nat} {v u : Value} {xs : List Value} {B i : Nat} (h : w.ownsRow base 42 5 v n xs) (hB : B < base) : (w.setCell ⟨B, i, none⟩ u).ownsRow base 42 5 v n xs :=
  ⟨h.1, h.2.imp id fun ⟨g, cap, cur, e1, e2, e3, e4⟩ => ⟨g, cap, cur, e1, e2, (Below.heap_setCell _ _ _ _ (by show g ≠ B; omega)).trans e3, e4⟩⟩
/-- A slice of the commands in their order; a delta with them. -/
def IsSl (cs : List Cmd) : Value → World → Prop := fun v w => ∃ (a : Option Addr) (ls : List Cmd) (cap : Nat), v = .slice a ls.length cap ∧ CmdsIn w a ls cap ∧ ls.Perm cs ∧ Asc ls
theorem stable_sl (cs : List Cmd) : Stable (fun W W' => Below W.heap.size W W') (IsSl cs) := fun v w w' ⟨a, ls, cap, h1, h2, h3⟩ hE => ⟨a, ls, cap, h1, h2.below hE, h3⟩
def IsDelS (o n : Int) (x y : List Int) (cs : List Cmd) : Value → World → Prop := fun v w => ∃ (D : Array Value) (a : Option Addr) (ls : List Cmd) (cap : Nat), v = .agg D ∧ DeltaOf D o n x y (.slice a ls.length cap) ∧ CmdsIn w a ls cap ∧ ls.Perm cs ∧ Asc ls
theorem stable_delS (o n : Int) (x y : List Int) (cs : List Cmd) : Stable (fun W W' => Below W.heap.size W W') (IsDelS o n x y cs) := fun v w w' ⟨D, a, ls, cap, h1, h2, h3, h4⟩ hE => ⟨D, a, ls, cap, h1, h2, h3.below hE, h4⟩
end Go.Proofs.Ytifdeeaoaekokaa
