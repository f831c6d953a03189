/- A slice that the call itself made, and appends to it. -/
import Derived.Laws.AppendOwn
import Derived.Laws.OwnMore
import Derived.OwnWalk
import Derived.Test.Ytclalbiggnalfaa00Tail1
import Derived.Test.Ytclalbiggnalfaa02Base
namespace Go.Proofs.Ytclalbiggnalfaa
open Go.RowKit
set_option linter.unusedVariables false

/-- A world in which nothing below w0's heap has changed, and the slice v owns the cells xs. -/
structure OwnW (w0 : World) (e : TypeId) (v : Value) (xs : List Value) where
  w : World
  below : Below w0.heap.size w0 w
  own : w.ownsRow w0.heap.size e 1 v xs.length xs

theorem OwnW.drewC {w0 : World} {e : TypeId} {v : Value} {xs : List Value} (s : OwnW w0 e v xs) : ∃ s' : OwnW w0 e v xs, s.w.drew = s'.w :=
  ⟨⟨s.w.drew, s.below.drew, s.own⟩, rfl⟩
theorem wp_region_O {P : Program} {id : Nat} {Q : Exit → Act → World → Prop} {a : Act} {l : List Oper} {w0 : World} {e : TypeId} {v : Value} {xs : List Value} (s : OwnW w0 e v xs) (hm : P.follows .mixedOrders = true) (hB : Region.lexB .any l.toArray = true)
    (H : Nonempty (OwnW w0 e v xs) → wpQuiet P l.toArray (fun w' => ∃ s : OwnW w0 e v xs, w' = s.w) (fun a' => ∀ w', (∃ s : OwnW w0 e v xs, w' = s.w) → Q .normal a' w') l a) : (Code.region id l.toArray true).wp P Q a s.w :=
  wp_region_inC _ hm hB s.drewC (H ⟨s⟩)
theorem wp_region_O_tail {P : Program} {id : Nat} {Q : Exit → Act → World → Prop} {a : Act} {l : List Oper} {w0 : World} {e : TypeId} {v : Value} {xs : List Value} (n : Nat) (s : OwnW w0 e v xs) (hm : P.follows .mixedOrders = true) (hB : Region.lexTailB .any l.toArray n = true)
    (H : Nonempty (OwnW w0 e v xs) → wpQuiet P l.toArray (fun w' => ∃ s : OwnW w0 e v xs, w' = s.w) (fun a' => ∀ w', (∃ s : OwnW w0 e v xs, w' = s.w) → wpList P l.toArray Q (l.drop n) a' w') (l.take n) a) : (Code.region id l.toArray true).wp P Q a s.w :=
  wp_region_inC_tail n _ hm hB s.drewC (H ⟨s⟩)

theorem wp_region_O_tail1 {P : Program} {id : Nat} {Q : Exit → Act → World → Prop} {a : Act} {o0 : Oper} {l : List Oper} {w0 : World} {e : TypeId} {v : Value} {xs : List Value} (n : Nat) (s : OwnW w0 e v xs) (x : Operand) (hx : o0.op = .move x) (hg : o0.guard = none)
    (hm : P.follows .mixedOrders = true) (hB : tail1B (o0 :: l) n = true) (hQ : ∀ c a' w', Q (.panic c) (a'.put o0.dst (a.eval x)) w' → Q (.panic c) a' w')
    (H : Nonempty (OwnW w0 e v xs) → wpQuiet P (o0 :: l).toArray (fun w' => ∃ s : OwnW w0 e v xs, w' = s.w) (fun a' => ∀ w', (∃ s : OwnW w0 e v xs, w' = s.w) → wpList P (o0 :: l).toArray Q ((o0 :: l).drop n) a' w') ((o0 :: l).take n) a) : (Code.region id (o0 :: l).toArray true).wp P Q a s.w :=
  wp_region_tail1 n _ x hx hg hm hB s.drewC hQ (H ⟨s⟩)

/-- A callee that changes nothing that was there. -/
theorem OwnW.call {P : Program} {f : FuncId} {args : Array Value} {u : Value} {w0 : World} {e : TypeId} {v : Value} {xs : List Value} {s : OwnW w0 e v xs} (h : Calls P f args s.w (Gives u s.w)) :
    Calls P f args s.w fun en w'' => en = .returned u ∧ ∃ s' : OwnW w0 e v xs, w'' = s'.w :=
  h.mono fun _ w'' ⟨he, hb⟩ => ⟨he, ⟨w'', s.below.trans (hb.mono s.below.size), by
    refine ⟨s.own.1, ?_⟩
    rcases s.own.2 with h0 | ⟨g, cap, cur, h1, h2, h3, h4⟩
    · exact .inl h0
    · exact .inr ⟨g, cap, cur, h1, h2, (hb.block _ (Array.getElem?_eq_some_iff.1 h3).1).trans h3, h4⟩⟩, rfl⟩

/-- What an element type must be. -/
structure Elem (P : Program) (t e : TypeId) where
  i : TypeInfo
  z : Value
  bytes : Nat
  ht : P.underlying t = some (.slice e)
  hi : P.info? e = some i
  hz : i.zero = some z
  hsize : i.size = 1
  hby : i.bytes = bytes
  hzs : z.cells.size = 1
  hb8 : bytes ≤ 8
theorem elem_of {P : Program} {t e : TypeId} {z : Value} {n : Nat} (ht : P.underlying t = some (.slice e)) (h : (P.info? e).map (fun i => (i.zero, i.size, i.bytes)) = some (some z, 1, n)) (hzs : z.cells.size = 1) (hb : n ≤ 8) : Nonempty (Elem P t e) := by
  obtain ⟨i, hi, he⟩ := Option.map_eq_some_iff.1 h
  simp only [Prod.mk.injEq] at he
  exact ⟨⟨i, z, n, ht, hi, he.1, he.2.1, he.2.2, hzs, hb⟩⟩

/-- Some elements of a new literal are appended. -/
theorem wpList_append_O {P : Program} {t e : TypeId} (E : Elem P t e) {w0 : World} {v : Value} {xs : List Value} {ops : Array Oper} {rest : List Oper} {o : Oper} {a : Act} {Q : Exit → Act → World → Prop} (s : OwnW w0 e v xs) (news : List Value) (cs : Array Value) (hcs : cs = news.toArray)
    (sO xO : Operand) (hgd : o.guard = none) (ho : o.op = .call { callee := .builtin .append, args := #[sO, xO], argTypes := #[t, t] }) (hs : a.eval sO = v) (m c : Nat) (hm : m = news.length) (hx : a.eval xO = .slice (some ⟨s.w.heap.size, 0, none⟩) m c)
    (h1 : ∀ u ∈ news, u.oneCell' = true) (hlen : xs.length + news.length ≤ 1099511627776)
    (H : ∀ v' (s' : OwnW w0 e v' (xs ++ news)), wpList P ops Q rest (a.put o.dst v') s'.w) :
    wpList P ops Q (o :: rest) a (s.w.alloc (.cells cs e)) := by
  subst hm; subst hcs
  refine wpList_append_own _ hgd sO xO t ho w0.heap.size e E.i E.z 1 E.bytes E.ht E.hi E.hz E.hsize E.hby E.hzs (by omega) v xs.length xs hs (s.own.alloc _) ⟨s.w.heap.size, 0, none⟩ news.length c news hx (by omega) ?_ h1 (by unfold maxLen; omega) ?_ (by simp; exact Nat.le_succ_of_le s.below.size) ?_
  · intro j u hu
    have hadd : (⟨s.w.heap.size, 0, none⟩ : Addr).add j = ⟨s.w.heap.size, j, none⟩ := by rw [Addr.add_mid, Nat.zero_add]
    rw [hadd, cell_of (World.alloc_heap_new s.w _)]
    simpa using hu
  · have h2 : (xs.length + news.length) * E.bytes ≤ 1099511627776 * 8 := Nat.mul_le_mul hlen E.hb8
    omega
  · intro v' w' hown hgr _
    have hb : Below w0.heap.size w0 (s.w.alloc (.cells news.toArray e)) := s.below.alloc s.below.size _
    refine H v' ⟨w', hb.grown hgr (by have := s.below.size; simp; omega) (fun k hk => (s.own.lt k hk).1), ?_⟩
    rw [List.length_append]
    exact hown

def OwnW.as {w0 : World} {e : TypeId} {v : Value} {xs xs' : List Value} (s : OwnW w0 e v xs) (h : xs = xs') : OwnW w0 e v xs' := ⟨s.w, s.below, h ▸ s.own⟩
/-- The cells of an owned slice. -/
theorem OwnW.row {w0 : World} {e : TypeId} {v : Value} {xs : List Value} (s : OwnW w0 e v xs) (n : Nat) (hn : xs.length = n) (h : 0 < n) : ∃ g cap, v = .slice (some ⟨g, 0, none⟩) n cap ∧ w0.heap.size ≤ g ∧ n ≤ cap ∧ cap ≤ maxLen ∧
    (∀ j u, xs[j]? = some u → s.w.cell? ⟨g, j, none⟩ = some u) := by
  subst hn
  rcases s.own.2 with ⟨_, h0⟩ | ⟨g, cap, cur, rfl, hg, hb, hc, hm, _, ht⟩
  · omega
  · refine ⟨g, cap, rfl, hg, hc, hm, fun j u hu => ?_⟩
    have := s.own.cells (g := g) rfl j u hu
    rwa [Addr.add_mid, Nat.zero_add] at this
theorem OwnW.all {w0 : World} {e : TypeId} {g n cap : Nat} {xs : List Value} (s : OwnW w0 e (.slice (some ⟨g, 0, none⟩) n cap) xs) (j : Nat) (u : Value) (hu : xs[j]? = some u) : s.w.cell? ⟨g, j, none⟩ = some u := by
  have := s.own.cells (g := g) rfl j u hu
  rwa [Addr.add_mid, Nat.zero_add] at this
end Go.Proofs.Ytclalbiggnalfaa
