import Derived.Deep.MidRow
import Derived.Deep.WholeRow
import Derived.Laws.CopyOwn
import Derived.Test.YtfomidjhmdmmcaaE10f1
import Derived.Test.YtfomidjhmdmmcaaE10f2
import Derived.Laws.AppendOwn
import Derived.Laws.OwnMore
import Derived.OwnWalk
import Derived.Laws.MakeOwn
import Derived.Laws.AppendOwnNone
import Derived.Test.YtfomidjhmdmmcaaChecked
import Derived.Laws.Cover3
import Derived.BigQuiet
import Derived.Deep.QuietTactic
import Derived.LoopTactic
import Derived.Shelf.Abstract
import Derived.Test.YtfomidjhmdmmcaaProg
/- Classes of worlds in which a listed block may be written, or a callee may write one old block. -/
namespace Go.Proofs.Ytfomidjhmdmmcaa
open Go.RowKit
set_option linter.unusedVariables false

/-- A store into a listed block of the call's own. -/
def HeldW.store {w0 : World} {b i : Nat} {cs cs' : Array Value} {t : TypeId} {v : Value} {bs : List (Nat × Obj)} (s : HeldW w0 ((b, .cells cs t (0, 0)) :: bs)) (hb : w0.heap.size ≤ b) (hne : ∀ p ∈ bs, p.1 ≠ b)
    (he : cs.setIfInBounds i v = cs') : HeldW w0 ((b, .cells cs' t (0, 0)) :: bs) :=
  ⟨s.w.setCell ⟨b, i, none⟩ v, s.below.setCell hb v, List.forall_mem_cons.2
    ⟨by subst he; exact heap_setCell_same _ _ _ _ _ _ (s.blocks _ List.mem_cons_self),
     fun p hp => (Below.heap_setCell _ _ _ _ (hne p hp)).trans (s.blocks p (List.mem_cons_of_mem _ hp))⟩⟩

/-- A whole row into a listed block of the call's own. -/
def HeldW.row {w0 : World} {b : Nat} {cs cs' : Array Value} {t : TypeId} {bs : List (Nat × Obj)} (s : HeldW w0 ((b, .cells cs t (0, 0)) :: bs)) (hb : w0.heap.size ≤ b) (hne : ∀ p ∈ bs, p.1 ≠ b) :
    HeldW w0 ((b, .cells cs' t (0, 0)) :: bs) :=
  ⟨s.w.setRow b cs', below_setRow s.below hb cs', List.forall_mem_cons.2
    ⟨setRow_heap _ _ _ _ _ _ (s.blocks _ List.mem_cons_self),
     fun p hp => (setRow_other _ _ _ _ (hne p hp)).trans (s.blocks p (List.mem_cons_of_mem _ hp))⟩⟩

/-- A draw. -/
def HeldW.drawn {w0 : World} {bs : List (Nat × Obj)} (s : HeldW w0 bs) (n : Nat) : HeldW w0 bs := ⟨s.w.drewN n, below_drewN s.below n, s.blocks⟩

/-- Below B nothing but block h has changed. -/
structure But (h B : Nat) (w w' : World) : Prop where
  os : w'.os = w.os
  tape : w'.tape = w.tape
  output : w'.output = w.output
  size : w.heap.size ≤ w'.heap.size
  block : ∀ k, k < B → k ≠ h → w'.heap[k]? = w.heap[k]?
theorem But.refl (h B : Nat) (w : World) : But h B w w := ⟨rfl, rfl, rfl, Nat.le_refl _, fun _ _ _ => rfl⟩
theorem But.of_below {h B : Nat} {w w' : World} (b : Below B w w') : But h B w w' := ⟨b.os, b.tape, b.output, b.size, fun k hk _ => b.block k hk⟩
theorem But.trans {h B : Nat} {a b c : World} (p : But h B a b) (q : But h B b c) : But h B a c :=
  ⟨q.os.trans p.os, q.tape.trans p.tape, q.output.trans p.output, Nat.le_trans p.size q.size, fun i hi hn => (q.block i hi hn).trans (p.block i hi hn)⟩
theorem But.mono {h B B' : Nat} {w w' : World} (p : But h B w w') (hB : B' ≤ B) : But h B' w w' := ⟨p.os, p.tape, p.output, p.size, fun k hk => p.block k (Nat.lt_of_lt_of_le hk hB)⟩
theorem But.below {h B : Nat} {w w' : World} (p : But h B w w') (hB : B ≤ h) : Below B w w' := ⟨p.os, p.tape, p.output, p.size, fun k hk => p.block k hk (by omega)⟩
theorem But.store {h B : Nat} {a w : World} (p : But h B a w) (i : Nat) (v : Value) : But h B a (w.setCell ⟨h, i, none⟩ v) :=
  p.trans ⟨rfl, rfl, rfl, by simp [World.setCell], fun k _ hn => Below.heap_setCell _ _ _ _ hn⟩

/-- It returns v; of what was there only block h has changed: it holds o now. -/
def Puts (h : Nat) (o : Obj) (v : Value) (w : World) (e : Ending) (w' : World) : Prop := e = .returned v ∧ But h w.heap.size w w' ∧ w'.heap[h]? = some o

/-- A world in which nothing below w0's heap but block h has changed since w0, and the listed blocks are what they were. -/
structure HeldX (w0 : World) (h : Nat) (bs : List (Nat × Obj)) where
  w : World
  but : But h w0.heap.size w0 w
  blocks : ∀ p ∈ bs, w.heap[p.1]? = some p.2

abbrev HeldX.start {w : World} {h : Nat} {o : Obj} (ho : w.heap[h]? = some o) : HeldX w h [(h, o)] := ⟨w, But.refl _ _ _, by simpa using ho⟩
abbrev HeldX.push {w0 : World} {h : Nat} {bs : List (Nat × Obj)} (s : HeldX w0 h bs) (o : Obj) : HeldX w0 h ((s.w.heap.size, o) :: bs) :=
  ⟨s.w.alloc o, s.but.trans (But.of_below ((Below.refl _ _).alloc s.but.size o)), List.forall_mem_cons.2 ⟨World.alloc_heap_new s.w o, fun p hp => (Below.heap_alloc _ _ _ (Array.getElem?_eq_some_iff.1 (s.blocks p hp)).1).trans (s.blocks p hp)⟩⟩
abbrev HeldX.sub {w0 : World} {h : Nat} {bs bs' : List (Nat × Obj)} (s : HeldX w0 h bs) (hs : ∀ p ∈ bs', p ∈ bs) : HeldX w0 h bs' := ⟨s.w, s.but, fun p hp => s.blocks p (hs p hp)⟩
def HeldX.drawn {w0 : World} {h : Nat} {bs : List (Nat × Obj)} (s : HeldX w0 h bs) (n : Nat) : HeldX w0 h bs := ⟨s.w.drewN n, ⟨s.but.os, s.but.tape, s.but.output, s.but.size, s.but.block⟩, s.blocks⟩

/-- A callee that changes nothing that was there. -/
theorem HeldX.call {P : Program} {f : FuncId} {args : Array Value} {v : Value} {w0 : World} {h : Nat} {bs : List (Nat × Obj)} {s : HeldX w0 h bs} (hc : Calls P f args s.w (Gives v s.w)) :
    Calls P f args s.w fun e w'' => e = .returned v ∧ ∃ s' : HeldX w0 h bs, w'' = s'.w :=
  hc.mono fun _ w'' ⟨he, hb⟩ => ⟨he, ⟨w'', s.but.trans ((But.of_below hb).mono s.but.size), fun p hp => (hb.block _ (Array.getElem?_eq_some_iff.1 (s.blocks p hp)).1).trans (s.blocks p hp)⟩, rfl⟩

/-- A callee that writes block g, which may be the block that may be written, or one of the call's own. -/
theorem HeldX.puts {P : Program} {f : FuncId} {args : Array Value} {v : Value} {w0 : World} {h g : Nat} {o o' : Obj} {bs : List (Nat × Obj)} {s : HeldX w0 h ((g, o) :: bs)} (hc : Calls P f args s.w (Puts g o' v s.w))
    (hg : g = h ∨ w0.heap.size ≤ g) (hne : ∀ p ∈ bs, p.1 ≠ g) :
    Calls P f args s.w fun e w'' => e = .returned v ∧ ∃ s' : HeldX w0 h ((g, o') :: bs), w'' = s'.w :=
  hc.mono fun _ w'' ⟨he, hb, ho⟩ => ⟨he, ⟨w'', s.but.trans ⟨hb.os, hb.tape, hb.output, hb.size, fun k hk hn => hb.block k (Nat.lt_of_lt_of_le hk s.but.size) (by rcases hg with rfl | hg <;> omega)⟩,
    List.forall_mem_cons.2 ⟨ho, fun p hp => (hb.block _ (Array.getElem?_eq_some_iff.1 (s.blocks p (List.mem_cons_of_mem _ hp))).1 (hne p hp)).trans (s.blocks p (List.mem_cons_of_mem _ hp))⟩⟩, rfl⟩
/-- The same in a law's class of worlds: the block is one of the call's own. -/
theorem HeldW.puts {P : Program} {f : FuncId} {args : Array Value} {v : Value} {w0 : World} {g : Nat} {o o' : Obj} {bs : List (Nat × Obj)} {s : HeldW w0 ((g, o) :: bs)} (hc : Calls P f args s.w (Puts g o' v s.w))
    (hg : w0.heap.size ≤ g) (hne : ∀ p ∈ bs, p.1 ≠ g) :
    Calls P f args s.w fun e w'' => e = .returned v ∧ ∃ s' : HeldW w0 ((g, o') :: bs), w'' = s'.w :=
  hc.mono fun _ w'' ⟨he, hb, ho⟩ => ⟨he, ⟨w'', s.below.trans ⟨hb.os, hb.tape, hb.output, hb.size, fun k hk => hb.block k (Nat.lt_of_lt_of_le hk s.below.size) (by omega)⟩,
    List.forall_mem_cons.2 ⟨ho, fun p hp => (hb.block _ (Array.getElem?_eq_some_iff.1 (s.blocks p (List.mem_cons_of_mem _ hp))).1 (hne p hp)).trans (s.blocks p (List.mem_cons_of_mem _ hp))⟩⟩, rfl⟩

/-- A store into the listed block that may be written. -/
def HeldX.store {w0 : World} {h b i : Nat} {cs cs' : Array Value} {t : TypeId} {v : Value} {bs : List (Nat × Obj)} (s : HeldX w0 h ((b, .cells cs t (0, 0)) :: bs)) (hb : b = h ∨ w0.heap.size ≤ b) (hne : ∀ p ∈ bs, p.1 ≠ b)
    (he : cs.setIfInBounds i v = cs') : HeldX w0 h ((b, .cells cs' t (0, 0)) :: bs) :=
  ⟨s.w.setCell ⟨b, i, none⟩ v, s.but.trans ⟨rfl, rfl, rfl, by simp [World.setCell], fun k hk hn => Below.heap_setCell _ _ _ _ (by simp only; have := s.but.size; omega)⟩, List.forall_mem_cons.2
    ⟨by subst he; exact heap_setCell_same _ _ _ _ _ _ (s.blocks _ List.mem_cons_self),
     fun p hp => (Below.heap_setCell _ _ _ _ (hne p hp)).trans (s.blocks p (List.mem_cons_of_mem _ hp))⟩⟩

/-- A whole row into the listed block that may be written. -/
def HeldX.row {w0 : World} {h b : Nat} {cs : Array Value} {t : TypeId} {bs : List (Nat × Obj)} (s : HeldX w0 h ((b, .cells cs t (0, 0)) :: bs)) (hb : b = h ∨ w0.heap.size ≤ b) (hne : ∀ p ∈ bs, p.1 ≠ b) (cs' : Array Value) :
    HeldX w0 h ((b, .cells cs' t (0, 0)) :: bs) :=
  ⟨s.w.setRow b cs', s.but.trans ⟨rfl, rfl, rfl, by simp, fun k hk hn => setRow_other _ _ _ _ (by have := s.but.size; omega)⟩, List.forall_mem_cons.2
    ⟨setRow_heap _ _ _ _ _ _ (s.blocks _ List.mem_cons_self),
     fun p hp => (setRow_other _ _ _ _ (hne p hp)).trans (s.blocks p (List.mem_cons_of_mem _ hp))⟩⟩

/-- A region that draws its order, in any class of worlds that a draw does not leave: walked once. -/
theorem wp_region_inC {P : Program} {id : Nat} {Q : Exit → Act → World → Prop} {a : Act} {w : World} {l : List Oper} (C : World → Prop) (hm : P.follows .mixedOrders = true) (hB : Region.lexB .any l.toArray = true) (hw : C w.drew)
    (h : wpQuiet P l.toArray C (fun a' => ∀ w', C w' → Q .normal a' w') l a) : (Code.region id l.toArray true).wp P Q a w :=
  wp_region_quiet (C := C) hm hB hw (by simpa using h)
/-- The same, where the operations behind the first n come in one forced order. -/
theorem wp_region_inC_tail {P : Program} {id : Nat} {Q : Exit → Act → World → Prop} {a : Act} {w : World} {l : List Oper} (n : Nat) (C : World → Prop) (hm : P.follows .mixedOrders = true) (hB : Region.lexTailB .any l.toArray n = true) (hw : C w.drew)
    (h : wpQuiet P l.toArray C (fun a' => ∀ w', C w' → wpList P l.toArray Q (l.drop n) a' w') (l.take n) a) : (Code.region id l.toArray true).wp P Q a w := by
  simp only [Region.lexTailB, Bool.and_eq_true, decide_eq_true_eq] at hB
  obtain ⟨⟨⟨⟨hsel, hn⟩, hs⟩, hch⟩, hlex⟩ := hB
  have hn' : n < l.length := by simpa using hn
  have htl : (l.take n).length = n := by simp; omega
  have hdl : (l.drop n).length = l.toArray.size - n := by simp
  have inv0 : HeadInv .any l.toArray n (Array.replicate l.toArray.size false) :=
    ⟨by simp, fun j oj _ hl => (by rw [getD_replicate_false] at hl; cases hl), fun t _ ht => getD_in (by simpa using ht) (getD_replicate_false _ _)⟩
  have H := head_lex (C := C) (md := .any) (g := l.toArray.size - n) hsel hs hch hn (l.take n) 0 _ a (fun j hj => by
    have hj' : j < n := by rw [htl] at hj; exact hj
    simp [hj']) (by simpa using htl) inv0 (by rw [htl]; exact hlex) h
  refine wp_region_any hm ?_
  have := any_of_head (Q' := Q) (g := l.toArray.size - n) (fun listed a' w' hw' hL => by
    have := wpAny_of_seq (md := .any) (Q' := Q) (l.drop n) n listed a' w' (fun j => by simp [List.getElem?_drop]) (by rw [hdl]; exact hL.1) (hL.2 w' hw')
    rwa [hdl] at this) _ _ _ _ hw H
  rw [htl, show n + (l.toArray.size - n) = l.toArray.size by omega] at this
  exact this

/-- HeldX's class. -/
theorem HeldX.drewC {w0 : World} {h : Nat} {bs : List (Nat × Obj)} (s : HeldX w0 h bs) : ∃ s' : HeldX w0 h bs, s.w.drew = s'.w := ⟨⟨s.w.drew, ⟨s.but.os, s.but.tape, s.but.output, s.but.size, s.but.block⟩, s.blocks⟩, rfl⟩
theorem wp_region_X {P : Program} {id : Nat} {Q : Exit → Act → World → Prop} {a : Act} {l : List Oper} {w0 : World} {h : Nat} {bs : List (Nat × Obj)} (s : HeldX w0 h bs) (hm : P.follows .mixedOrders = true) (hB : Region.lexB .any l.toArray = true)
    (H : Nonempty (HeldX w0 h bs) → wpQuiet P l.toArray (fun w' => ∃ s : HeldX w0 h bs, w' = s.w) (fun a' => ∀ w', (∃ s : HeldX w0 h bs, w' = s.w) → Q .normal a' w') l a) : (Code.region id l.toArray true).wp P Q a s.w :=
  wp_region_inC _ hm hB s.drewC (H ⟨s⟩)
theorem wp_region_X_tail {P : Program} {id : Nat} {Q : Exit → Act → World → Prop} {a : Act} {l : List Oper} {w0 : World} {h : Nat} {bs : List (Nat × Obj)} (n : Nat) (s : HeldX w0 h bs) (hm : P.follows .mixedOrders = true) (hB : Region.lexTailB .any l.toArray n = true)
    (H : Nonempty (HeldX w0 h bs) → wpQuiet P l.toArray (fun w' => ∃ s : HeldX w0 h bs, w' = s.w) (fun a' => ∀ w', (∃ s : HeldX w0 h bs, w' = s.w) → wpList P l.toArray Q (l.drop n) a' w') (l.take n) a) : (Code.region id l.toArray true).wp P Q a s.w :=
  wp_region_inC_tail n _ hm hB s.drewC (H ⟨s⟩)

end Go.Proofs.Ytfomidjhmdmmcaa

/- A slice that the call itself made, and appends to it. -/
namespace Go.Proofs.Ytfomidjhmdmmcaa
open Go.RowKit
set_option linter.unusedVariables false

/-- A world in which nothing below w0's heap has changed, and the slice v owns the cells xs. -/
structure OwnW (w0 : World) (e : TypeId) (v : Value) (xs : List Value) where
  w : World
  below : Below w0.heap.size w0 w
  own : w.ownsRow w0.heap.size e 1 v xs.length xs

theorem OwnW.drewC {w0 : World} {e : TypeId} {v : Value} {xs : List Value} (s : OwnW w0 e v xs) : ∃ s' : OwnW w0 e v xs, s.w.drew = s'.w :=
  ⟨⟨s.w.drew, s.below.drew, s.own⟩, rfl⟩
theorem wp_region_O {P : Program} {id : Nat} {Q : Exit → Act → World → Prop} {a : Act} {l : List Oper} {w0 : World} {e : TypeId} {v : Value} {xs : List Value} (s : OwnW w0 e v xs) (hm : P.follows .mixedOrders = true) (hB : Region.lexB .any l.toArray = true)
    (H : Nonempty (OwnW w0 e v xs) → wpQuiet P l.toArray (fun w' => ∃ s : OwnW w0 e v xs, w' = s.w) (fun a' => ∀ w', (∃ s : OwnW w0 e v xs, w' = s.w) → Q .normal a' w') l a) : (Code.region id l.toArray true).wp P Q a s.w :=
  wp_region_inC _ hm hB s.drewC (H ⟨s⟩)
theorem wp_region_O_tail {P : Program} {id : Nat} {Q : Exit → Act → World → Prop} {a : Act} {l : List Oper} {w0 : World} {e : TypeId} {v : Value} {xs : List Value} (n : Nat) (s : OwnW w0 e v xs) (hm : P.follows .mixedOrders = true) (hB : Region.lexTailB .any l.toArray n = true)
    (H : Nonempty (OwnW w0 e v xs) → wpQuiet P l.toArray (fun w' => ∃ s : OwnW w0 e v xs, w' = s.w) (fun a' => ∀ w', (∃ s : OwnW w0 e v xs, w' = s.w) → wpList P l.toArray Q (l.drop n) a' w') (l.take n) a) : (Code.region id l.toArray true).wp P Q a s.w :=
  wp_region_inC_tail n _ hm hB s.drewC (H ⟨s⟩)

theorem wp_region_O_tail1 {P : Program} {id : Nat} {Q : Exit → Act → World → Prop} {a : Act} {o0 : Oper} {l : List Oper} {w0 : World} {e : TypeId} {v : Value} {xs : List Value} (n : Nat) (s : OwnW w0 e v xs) (x : Operand) (hx : o0.op = .move x) (hg : o0.guard = none)
    (hm : P.follows .mixedOrders = true) (hB : tail1B (o0 :: l) n = true) (hQ : ∀ c a' w', Q (.panic c) (a'.put o0.dst (a.eval x)) w' → Q (.panic c) a' w')
    (H : Nonempty (OwnW w0 e v xs) → wpQuiet P (o0 :: l).toArray (fun w' => ∃ s : OwnW w0 e v xs, w' = s.w) (fun a' => ∀ w', (∃ s : OwnW w0 e v xs, w' = s.w) → wpList P (o0 :: l).toArray Q ((o0 :: l).drop n) a' w') ((o0 :: l).take n) a) : (Code.region id (o0 :: l).toArray true).wp P Q a s.w :=
  wp_region_tail1 n _ x hx hg hm hB s.drewC hQ (H ⟨s⟩)

/-- A callee that changes nothing that was there. -/
theorem OwnW.call {P : Program} {f : FuncId} {args : Array Value} {u : Value} {w0 : World} {e : TypeId} {v : Value} {xs : List Value} {s : OwnW w0 e v xs} (h : Calls P f args s.w (Gives u s.w)) :
    Calls P f args s.w fun en w'' => en = .returned u ∧ ∃ s' : OwnW w0 e v xs, w'' = s'.w :=
  h.mono fun _ w'' ⟨he, hb⟩ => ⟨he, ⟨w'', s.below.trans (hb.mono s.below.size), by
    refine ⟨s.own.1, ?_⟩
    rcases s.own.2 with h0 | ⟨g, cap, cur, h1, h2, h3, h4⟩
    · exact .inl h0
    · exact .inr ⟨g, cap, cur, h1, h2, (hb.block _ (Array.getElem?_eq_some_iff.1 h3).1).trans h3, h4⟩⟩, rfl⟩

/-- What an element type must be. -/
structure Elem (P : Program) (t e : TypeId) where
  i : TypeInfo
  z : Value
  bytes : Nat
  ht : P.underlying t = some (.slice e)
  hi : P.info? e = some i
  hz : i.zero = some z
  hsize : i.size = 1
  hby : i.bytes = bytes
  hzs : z.cells.size = 1
  hb8 : bytes ≤ 8
theorem elem_of {P : Program} {t e : TypeId} {z : Value} {n : Nat} (ht : P.underlying t = some (.slice e)) (h : (P.info? e).map (fun i => (i.zero, i.size, i.bytes)) = some (some z, 1, n)) (hzs : z.cells.size = 1) (hb : n ≤ 8) : Nonempty (Elem P t e) := by
  obtain ⟨i, hi, he⟩ := Option.map_eq_some_iff.1 h
  simp only [Prod.mk.injEq] at he
  exact ⟨⟨i, z, n, ht, hi, he.1, he.2.1, he.2.2, hzs, hb⟩⟩

/-- Some elements of a new literal are appended. -/
theorem wpList_append_O {P : Program} {t e : TypeId} (E : Elem P t e) {w0 : World} {v : Value} {xs : List Value} {ops : Array Oper} {rest : List Oper} {o : Oper} {a : Act} {Q : Exit → Act → World → Prop} (s : OwnW w0 e v xs) (news : List Value) (cs : Array Value) (hcs : cs = news.toArray)
    (sO xO : Operand) (hgd : o.guard = none) (ho : o.op = .call { callee := .builtin .append, args := #[sO, xO], argTypes := #[t, t] }) (hs : a.eval sO = v) (m c : Nat) (hm : m = news.length) (hx : a.eval xO = .slice (some ⟨s.w.heap.size, 0, none⟩) m c)
    (h1 : ∀ u ∈ news, u.oneCell' = true) (hlen : xs.length + news.length ≤ 1099511627776)
    (H : ∀ v' (s' : OwnW w0 e v' (xs ++ news)), wpList P ops Q rest (a.put o.dst v') s'.w) :
    wpList P ops Q (o :: rest) a (s.w.alloc (.cells cs e)) := by
  subst hm; subst hcs
  refine wpList_append_own _ hgd sO xO t ho w0.heap.size e E.i E.z 1 E.bytes E.ht E.hi E.hz E.hsize E.hby E.hzs (by omega) v xs.length xs hs (s.own.alloc _) ⟨s.w.heap.size, 0, none⟩ news.length c news hx (by omega) ?_ h1 (by unfold maxLen; omega) ?_ (by simp; exact Nat.le_succ_of_le s.below.size) ?_
  · intro j u hu
    have hadd : (⟨s.w.heap.size, 0, none⟩ : Addr).add j = ⟨s.w.heap.size, j, none⟩ := by rw [Addr.add_mid, Nat.zero_add]
    rw [hadd, cell_of (World.alloc_heap_new s.w _)]
    simpa using hu
  · have h2 : (xs.length + news.length) * E.bytes ≤ 1099511627776 * 8 := Nat.mul_le_mul hlen E.hb8
    omega
  · intro v' w' hown hgr _
    have hb : Below w0.heap.size w0 (s.w.alloc (.cells news.toArray e)) := s.below.alloc s.below.size _
    refine H v' ⟨w', hb.grown hgr (by have := s.below.size; simp; omega) (fun k hk => (s.own.lt k hk).1), ?_⟩
    rw [List.length_append]
    exact hown

def OwnW.as {w0 : World} {e : TypeId} {v : Value} {xs xs' : List Value} (s : OwnW w0 e v xs) (h : xs = xs') : OwnW w0 e v xs' := ⟨s.w, s.below, h ▸ s.own⟩
/-- The cells of an owned slice. -/
theorem OwnW.row {w0 : World} {e : TypeId} {v : Value} {xs : List Value} (s : OwnW w0 e v xs) (n : Nat) (hn : xs.length = n) (h : 0 < n) : ∃ g cap, v = .slice (some ⟨g, 0, none⟩) n cap ∧ w0.heap.size ≤ g ∧ n ≤ cap ∧ cap ≤ maxLen ∧
    (∀ j u, xs[j]? = some u → s.w.cell? ⟨g, j, none⟩ = some u) := by
  subst hn
  rcases s.own.2 with ⟨_, h0⟩ | ⟨g, cap, cur, rfl, hg, hb, hc, hm, _, ht⟩
  · omega
  · refine ⟨g, cap, rfl, hg, hc, hm, fun j u hu => ?_⟩
    have := s.own.cells (g := g) rfl j u hu
    rwa [Addr.add_mid, Nat.zero_add] at this
theorem OwnW.all {w0 : World} {e : TypeId} {g n cap : Nat} {xs : List Value} (s : OwnW w0 e (.slice (some ⟨g, 0, none⟩) n cap) xs) (j : Nat) (u : Value) (hu : xs[j]? = some u) : s.w.cell? ⟨g, j, none⟩ = some u := by
  have := s.own.cells (g := g) rfl j u hu
  rwa [Addr.add_mid, Nat.zero_add] at this
end Go.Proofs.Ytfomidjhmdmmcaa

/- Bytes and slices of bytes: cells, what came in, what the call itself made; words that every layer uses. -/
namespace Go.Proofs.Ytfomidjhmdmmcaa
open Go.RowKit
set_option linter.unusedVariables false

/-- How long a slice is. -/
def lenOf : Value → Nat
  | .slice _ n _ => n
  | _ => 0

theorem one_bytes (l : List Int) : ∀ v ∈ l.map (Value.int .u8), v.oneCell' = true := fun v hv => by obtain ⟨n, _, rfl⟩ := List.mem_map.1 hv; rfl

/-- A slice of bytes outside of block h. -/
def Src (w : World) (h : Nat) (a : Option Addr) (l : List Int) : Prop := 0 < l.length → ∃ b o, a = some ⟨b, o, none⟩ ∧ b ≠ h ∧ ∀ i, i < l.length → w.cell? ⟨b, o + i, none⟩ = some (.int .u8 (l[i]?.getD 0))

theorem ret_i {k : IntKind} {a b : Int} (h : a = b) : Ending.returned (.int k a) = .returned (.int k b) := by rw [h]

/-- The i-th part. -/
def partOf (ls : List (List Int)) (i : Nat) : List Int := ls[i]?.getD []

/-- A slice of slices of bytes outside of block h. -/
def PartsAt (w : World) (h : Nat) (pa : Option Addr) (ls : List (List Int)) : Prop := 0 < ls.length → ∃ b o, pa = some ⟨b, o, none⟩ ∧ b ≠ h ∧ ∀ i, i < ls.length →
  ∃ a cap, w.cell? ⟨b, o + i, none⟩ = some (.slice a (partOf ls i).length cap) ∧ (partOf ls i).length ≤ cap ∧ cap ≤ 9223372036854775807 ∧ Src w h a (partOf ls i)

theorem take_flat (ls : List (List Int)) {k : Nat} (hk : k < ls.length) : (ls.take (k + 1)).flatten = (ls.take k).flatten ++ partOf ls k := by
  rw [List.take_succ_eq_append_getElem hk, List.flatten_append]
  unfold partOf
  rw [List.getElem?_eq_getElem hk]
  simp

theorem take_flat_le (ls : List (List Int)) (k : Nat) : (ls.take k).flatten.length ≤ ls.flatten.length := by
  conv => rhs; rw [← List.take_append_drop k ls, List.flatten_append, List.length_append]
  omega

/-- Bytes as cells. -/
def byteA (l : List Int) : Array Value := (l.map (Value.int .u8)).toArray

theorem byteA_get (l : List Int) {i : Nat} (h : i < l.length) : (byteA l)[i]? = some (.int .u8 (l[i]?.getD 0)) := by
  unfold byteA; rw [List.getElem?_toArray, List.getElem?_map, List.getElem?_eq_getElem h]; rfl

theorem byteA_set (l : List Int) (i : Nat) (v : Int) : (byteA l).setIfInBounds i (.int .u8 v) = byteA (l.set i v) := by
  unfold byteA; apply Array.toList_inj.1; rw [Array.toList_setIfInBounds]; simp only [List.map_set]

theorem byteA_one (l : List Int) : (byteA l).all (·.oneCell') = true := by
  rw [Array.all_eq_true_iff_forall_mem]
  intro v hv
  unfold byteA at hv
  rw [List.mem_toArray] at hv
  exact one_bytes l v hv

theorem byteA_size (l : List Int) : (byteA l).size = l.length := by unfold byteA; simp

theorem made_zero (k : Nat) : madeCells (Value.int .u8 0).cells (k * 1) = byteA (List.replicate k 0) := by
  apply Array.ext_getElem?
  intro i
  unfold madeCells byteA
  rw [Nat.mul_one]
  by_cases h : i < k
  · simp [h, Value.cells, Nat.mod_one]
  · simp [h]

/-- One part. -/
theorem parts1 {w : World} {g b cap : Nat} {a : Option Addr} {l : List Int} {t : TypeId} {fr : Nat × Nat} (hb : w.heap[b]? = some (.cells #[.slice a l.length cap] t fr)) (hg : b ≠ g) (hcap : l.length ≤ cap) (hcap2 : cap ≤ 9223372036854775807) (hs : Src w g a l) : PartsAt w g (some ⟨b, 0, none⟩) [l] :=
  fun _ => ⟨b, 0, rfl, hg, fun i hi => by
    obtain rfl : i = 0 := by simp at hi; omega
    exact ⟨a, cap, by rw [cell_of_row w b _ _ _ _ hb]; rfl, hcap, hcap2, hs⟩⟩

/-- Two parts. -/
theorem parts2 {w : World} {g b cap cap' : Nat} {a a' : Option Addr} {l l' : List Int} {t : TypeId} {fr : Nat × Nat} (hb : w.heap[b]? = some (.cells #[.slice a l.length cap, .slice a' l'.length cap'] t fr)) (hg : b ≠ g) (hcap : l.length ≤ cap) (hcap2 : cap ≤ 9223372036854775807) (hs : Src w g a l)
    (hcap' : l'.length ≤ cap') (hcap2' : cap' ≤ 9223372036854775807) (hs' : Src w g a' l') : PartsAt w g (some ⟨b, 0, none⟩) [l, l'] :=
  fun _ => ⟨b, 0, rfl, hg, fun i hi => by
    have : i = 0 ∨ i = 1 := by simp at hi; omega
    rcases this with rfl | rfl
    · exact ⟨a, cap, by rw [cell_of_row w b _ _ _ _ hb]; rfl, hcap, hcap2, hs⟩
    · exact ⟨a', cap', by rw [cell_of_row w b _ _ _ _ hb]; rfl, hcap', hcap2', hs'⟩⟩

/-- A slice of bytes that came in. -/
structure BytesIn (w : World) (a : Option Addr) (l : List Int) (cap : Nat) : Prop where
  len : l.length ≤ cap
  capb : cap ≤ 9223372036854775807
  cells : 0 < l.length → ∃ b o, a = some ⟨b, o, none⟩ ∧ ∀ i, i < l.length → w.cell? ⟨b, o + i, none⟩ = some (.int .u8 (l[i]?.getD 0))
  nil : a = none → cap = 0

theorem BytesIn.src {w : World} {a : Option Addr} {l : List Int} {cap : Nat} (h : BytesIn w a l cap) {g : Nat} (hg : w.heap.size ≤ g) : Src w g a l := fun hp => by
  obtain ⟨b, o, rfl, hc⟩ := h.cells hp
  have := World.block_lt_of_cell? w _ (hc 0 hp)
  exact ⟨b, o, rfl, by simp only at this; omega, hc⟩

/-- Bytes that lie somewhere are appended to a slice of the call's own. -/
theorem wpList_append_srcB {P : Program} {t e : TypeId} (E : Elem P t e) {w0 : World} {v : Value} {xs : List Value} {ops : Array Oper} {rest : List Oper} {o : Oper} {a : Act} {Q : Exit → Act → World → Prop} (s : OwnW w0 e v xs) (news : List Value)
    (sO xO : Operand) (hgd : o.guard = none) (ho : o.op = .call { callee := .builtin .append, args := #[sO, xO], argTypes := #[t, t] }) (hs : a.eval sO = v) (sp : Option Addr) (m c : Nat) (hm : m = news.length) (hx : a.eval xO = .slice sp m c)
    (hnil : sp = none → m = 0 ∧ c = 0) (hsrc : ∀ ad, sp = some ad → ∀ j u, news[j]? = some u → s.w.cell? (ad.add j) = some u)
    (h1 : ∀ u ∈ news, u.oneCell' = true) (hbytes : (xs.length + news.length) * E.bytes ≤ 140737488355328) (h63 : xs.length + news.length ≤ maxLen)
    (H : ∀ v' (s' : OwnW w0 e v' (xs ++ news)), wpList P ops Q rest (a.put o.dst v') s'.w) :
    wpList P ops Q (o :: rest) a s.w := by
  subst hm
  cases sp with
  | none =>
    obtain ⟨h0, rfl⟩ := hnil rfl
    obtain rfl := List.eq_nil_of_length_eq_zero h0
    refine wpList_append_own_none hgd sO xO t ho w0.heap.size e E.i 1 E.ht E.hi v xs.length xs hs s.own (by simpa using hx) ?_
    have hH : ∀ (ys : List Value) (hy : xs ++ [] = ys) (s2 : OwnW w0 e v ys), wpList P ops Q rest (a.put o.dst v) s2.w := fun ys hy s2 => by subst hy; exact H v s2
    exact hH xs (by simp) s
  | some ad =>
    refine wpList_append_own _ hgd sO xO t ho w0.heap.size e E.i E.z 1 E.bytes E.ht E.hi E.hz E.hsize E.hby E.hzs (by omega) v xs.length xs hs s.own ad news.length c news hx (by omega) (hsrc ad rfl) h1 h63 hbytes s.below.size ?_
    · intro v' w' hown hgr _
      refine H v' ⟨w', s.below.grown hgr s.below.size (fun k hk => (s.own.lt k hk).1), ?_⟩
      rw [List.length_append]
      exact hown

/-- The same, for what is not too long, of whatever element. -/
theorem wpList_append_src {P : Program} {t e : TypeId} (E : Elem P t e) {w0 : World} {v : Value} {xs : List Value} {ops : Array Oper} {rest : List Oper} {o : Oper} {a : Act} {Q : Exit → Act → World → Prop} (s : OwnW w0 e v xs) (news : List Value)
    (sO xO : Operand) (hgd : o.guard = none) (ho : o.op = .call { callee := .builtin .append, args := #[sO, xO], argTypes := #[t, t] }) (hs : a.eval sO = v) (sp : Option Addr) (m c : Nat) (hm : m = news.length) (hx : a.eval xO = .slice sp m c)
    (hnil : sp = none → m = 0 ∧ c = 0) (hsrc : ∀ ad, sp = some ad → ∀ j u, news[j]? = some u → s.w.cell? (ad.add j) = some u)
    (h1 : ∀ u ∈ news, u.oneCell' = true) (hlen : xs.length + news.length ≤ 1099511627776)
    (H : ∀ v' (s' : OwnW w0 e v' (xs ++ news)), wpList P ops Q rest (a.put o.dst v') s'.w) :
    wpList P ops Q (o :: rest) a s.w :=
  wpList_append_srcB E s news sO xO hgd ho hs sp m c hm hx hnil hsrc h1 (by
    have h2 : (xs.length + news.length) * E.bytes ≤ 1099511627776 * 8 := Nat.mul_le_mul hlen E.hb8
    omega) (by unfold maxLen; omega) H

/-- What an owned slice looks like. -/
theorem OwnW.view {w0 : World} {e : TypeId} {v : Value} {xs : List Value} (s : OwnW w0 e v xs) (n : Nat) (hn : xs.length = n) : ∃ (a : Option Addr) (cap : Nat), v = .slice a n cap ∧ n ≤ cap ∧ cap ≤ 9223372036854775807 ∧
    Hid (0 < n → ∃ (g : Nat) (cur : Array Value), a = some ⟨g, 0, none⟩ ∧ w0.heap.size ≤ g ∧ s.w.heap[g]? = some (.cells cur e (0, 0)) ∧ ∀ (j : Nat) (u : Value), xs[j]? = some u → cur[j]? = some u) := by
  subst hn
  rcases s.own.2 with ⟨h1, h0⟩ | ⟨g, cap, cur, rfl, hg, hb, hc, hm, _, ht⟩
  · exact ⟨none, 0, by rw [h1, h0], by omega, by omega, fun h => by omega⟩
  · refine ⟨_, cap, rfl, hc, by unfold maxLen at hm; omega, fun _ => ⟨g, cur, rfl, hg, hb, fun j u hu => ?_⟩⟩
    have := s.own.cells (g := g) rfl j u hu
    rw [Addr.add_mid, Nat.zero_add, cell_of hb] at this
    exact this

/-- An empty literal. -/
theorem own_empty (w : World) : ∃ s : OwnW w 5 (.slice (some ⟨w.heap.size, 0, none⟩) 0 0) [], w.alloc (.cells #[] 5) = s.w :=
  ⟨⟨_, (Below.refl _ w).alloc (Nat.le_refl _) _, by
    have := World.ownsRow_made (base := w.heap.size) (e := 5) (size := 1) w #[] 0 (Nat.le_refl _) (by unfold maxLen; omega) rfl
    simpa using this⟩, rfl⟩

/-- A slice of slices of bytes that came in. -/
structure PartsIn (w : World) (pa : Option Addr) (ls : List (List Int)) : Prop where
  len : ls.length ≤ 9223372036854775807
  cells : 0 < ls.length → ∃ b o, pa = some ⟨b, o, none⟩ ∧ ∀ i, i < ls.length → ∃ a cap, w.cell? ⟨b, o + i, none⟩ = some (.slice a (partOf ls i).length cap) ∧ BytesIn w a (partOf ls i) cap

theorem PartsIn.at {w : World} {pa : Option Addr} {ls : List (List Int)} (h : PartsIn w pa ls) {g : Nat} (hg : w.heap.size ≤ g) : PartsAt w g pa ls := fun hp => by
  obtain ⟨b, o, rfl, hc⟩ := h.cells hp
  refine ⟨b, o, rfl, ?_, fun i hi => ?_⟩
  · obtain ⟨a, cap, h1, _⟩ := hc 0 hp
    have := World.block_lt_of_cell? w _ h1
    simp only at this
    omega
  · obtain ⟨a, cap, h1, h2⟩ := hc i hi
    exact ⟨a, cap, h1, h2.len, h2.capb, h2.src hg⟩

/-- An owned slice, its block listed. -/
theorem OwnW.held {w : World} {e : TypeId} {v : Value} {xs : List Value} (s : OwnW w e v xs) (n : Nat) (hn : xs.length = n) : ∃ (a : Option Addr) (cap : Nat) (bsx : List (Nat × Obj)), v = .slice a n cap ∧ n ≤ cap ∧ cap ≤ 9223372036854775807 ∧
    Hid (0 < n → ∃ (g : Nat) (cur : Array Value), a = some ⟨g, 0, none⟩ ∧ w.heap.size ≤ g ∧ bsx = [(g, .cells cur e (0, 0))] ∧ ∀ (j : Nat) (u : Value), xs[j]? = some u → cur[j]? = some u) ∧ ∃ s3 : HeldW w bsx, s.w = s3.w := by
  obtain ⟨a, cap, hv, h1, h2, hrow⟩ := s.view n hn
  by_cases h : 0 < n
  · obtain ⟨g, cur, ha, hg, hb, hc⟩ := hrow.out h
    exact ⟨a, cap, [(g, .cells cur e (0, 0))], hv, h1, h2, fun _ => ⟨g, cur, ha, hg, rfl, hc⟩, ⟨s.w, s.below, all1 hb⟩, rfl⟩
  · exact ⟨a, cap, [], hv, h1, h2, fun h' => absurd h' h, ⟨s.w, s.below, by simp⟩, rfl⟩

/-- A load that yields the same value in every world of a class goes as that value. -/
theorem quiet_load {P : Program} {ops : Array Oper} {C : World → Prop} {Q : Act → Prop} {a : Act} {rest : List Oper} {dst : Option Tmp} {type : TypeId} {pos : String} {after : Array Edge} {guard : Option (Nat × Bool)} (ty : TypeId) (x : Operand) (v : Value) (w : World) (hw : C w)
    (hl : ∀ w, C w → (Instr.loadAt ty (a.eval x)).run P w = .ok v w)
    (h : wpQuiet P ops C Q (⟨dst, .assign (.const v), type, pos, after, guard⟩ :: rest) a) : wpQuiet P ops C Q (⟨dst, .load ty x, type, pos, after, guard⟩ :: rest) a := by
  unfold wpQuiet at h ⊢
  by_cases hg : Region.wanted ⟨dst, .load ty x, type, pos, after, guard⟩ (yielded ops a.tmps) = true
  · rw [if_pos hg]
    rw [if_pos (show Region.wanted ⟨dst, .assign (.const v), type, pos, after, guard⟩ (yielded ops a.tmps) = true from hg)] at h
    obtain ⟨u, h1, h2⟩ := h
    have h3 := h1 w hw
    have hu : v = u := by
      unfold Oper.quietAt execOp at h3
      simp [Oper.quietUpon, Act.eval] at h3
      exact h3
    subst hu
    exact ⟨v, fun w' hw' => by
      unfold Oper.quietAt execOp
      simp only [Sem.run_bind, hl w' hw', Result.andThen_ok, Sem.run_pure, Oper.quietUpon]
      exact ⟨trivial, trivial⟩, h2⟩
  · rw [if_neg hg]
    rw [if_neg (show ¬ Region.wanted ⟨dst, .assign (.const v), type, pos, after, guard⟩ (yielded ops a.tmps) = true from hg)] at h
    exact h

/-- A slice of its own that a callee has made behind listed blocks: one more listed block. -/
theorem HeldW.own {w : World} {bs : List (Nat × Obj)} (s1 : HeldW w bs) {e : TypeId} {v : Value} {xs : List Value} (s : OwnW s1.w e v xs) (n : Nat) (hn : xs.length = n) (hp : 0 < n) :
    ∃ (g cap : Nat) (cur : Array Value), v = .slice (some ⟨g, 0, none⟩) n cap ∧ n ≤ cap ∧ cap ≤ 9223372036854775807 ∧ w.heap.size ≤ g ∧ Hid (∀ p ∈ bs, p.1 ≠ g) ∧ Hid (∀ (j : Nat) (u : Value), xs[j]? = some u → cur[j]? = some u) ∧ ∃ s2 : HeldW w ((g, .cells cur e (0, 0)) :: bs), s.w = s2.w := by
  obtain ⟨a, cap, rfl, h1, h2, hrow⟩ := s.view n hn
  obtain ⟨g, cur, rfl, hg, hb, hc⟩ := hrow.out hp
  refine ⟨g, cap, cur, rfl, h1, h2, Nat.le_trans s1.below.size hg, fun p hp => ?_, hc, ⟨s.w, s1.below.trans (s.below.mono s1.below.size), List.forall_mem_cons.2 ⟨hb, fun p hp => ?_⟩⟩, rfl⟩
  · have := (Array.getElem?_eq_some_iff.1 (s1.blocks p hp)).1
    omega
  · exact (s.below.block _ (Array.getElem?_eq_some_iff.1 (s1.blocks p hp)).1).trans (s1.blocks p hp)

/-- It returns a new slice of its own. -/
def MakesR (e : TypeId) (xs : List Value) (w : World) (en : Ending) (w' : World) : Prop := ∃ v, en = .returned v ∧ ∃ s : OwnW w e v xs, w' = s.w

theorem BytesIn.W {w : World} {a : Option Addr} {l : List Int} {cap : Nat} (h : BytesIn w a l cap) {bs : List (Nat × Obj)} (s : HeldW w bs) : BytesIn s.w a l cap := ⟨h.len, h.capb, fun hp => by
    obtain ⟨b, o, h1, h2⟩ := h.cells hp
    exact ⟨b, o, h1, fun i hi => (s.below.cell (p := ⟨b, o + i, none⟩) (World.block_lt_of_cell? _ _ (h2 i hi))).trans (h2 i hi)⟩, h.nil⟩

/-- Behind listed blocks. -/
theorem OwnW.on {w : World} {bs : List (Nat × Obj)} (s : HeldW w bs) {e : TypeId} {v : Value} {xs : List Value} (o : OwnW s.w e v xs) : ∃ s' : HeldW w bs, o.w = s'.w :=
  ⟨⟨o.w, s.below.trans (o.below.mono s.below.size), fun p hp => (o.below.block _ (Array.getElem?_eq_some_iff.1 (s.blocks p hp)).1).trans (s.blocks p hp)⟩, rfl⟩
end Go.Proofs.Ytfomidjhmdmmcaa

/- slices.Clone of bytes. -/
namespace Go.Proofs.Ytfomidjhmdmmcaa
open Go.RowKit
set_option linter.unusedVariables false

/-- What wpList_append_src wants of a slice that came in. -/
theorem BytesIn.nil2 {w : World} {a : Option Addr} {l : List Int} {cap : Nat} (h : BytesIn w a l cap) {n : Nat} (hn : n = l.length) : a = none → n = 0 ∧ cap = 0 := fun h0 => by
  have := h.nil h0; have := h.len; omega
theorem BytesIn.news {w : World} {a : Option Addr} {l : List Int} {cap : Nat} (h : BytesIn w a l cap) : ∀ ad, a = some ad → ∀ j u, (l.map (Value.int .u8))[j]? = some u → w.cell? (ad.add j) = some u := fun ad had j u hu => by
  have hj := (List.getElem?_eq_some_iff.1 hu).1
  rw [List.length_map] at hj
  obtain ⟨b, o, h1, hc⟩ := h.cells (by omega)
  obtain rfl := Option.some.inj (had.symm.trans h1)
  rw [Addr.add_mid, hc j hj]
  rw [List.getElem?_map] at hu
  obtain ⟨x, hx, rfl⟩ := Option.map_eq_some_iff.1 hu
  rw [hx]; rfl
theorem BytesIn.below {w w' : World} {a : Option Addr} {l : List Int} {cap : Nat} (h : BytesIn w a l cap) (hb : Below w.heap.size w w') : BytesIn w' a l cap := h.W (bs := []) ⟨w', hb, by simp⟩

/-- An owned slice of bytes can be read. -/
theorem OwnW.bytes {w0 : World} {e : TypeId} {v : Value} {l : List Int} (s : OwnW w0 e v (l.map (Value.int .u8))) : ∃ (a : Option Addr) (cap : Nat), v = .slice a l.length cap ∧ BytesIn s.w a l cap := by
  have hl : (l.map (Value.int .u8)).length = l.length := List.length_map _
  rcases s.own.2 with ⟨h1, h0⟩ | ⟨g, cap, cur, hv, hg, hb, hc, hm, _, ht⟩
  · rw [hl] at h0
    obtain rfl := List.eq_nil_of_length_eq_zero h0
    exact ⟨none, 0, h1, by simp, by omega, fun h => absurd h (by simp), fun _ => rfl⟩
  · rw [hl] at hv hc
    subst hv
    refine ⟨_, cap, rfl, hc, by unfold maxLen at hm; omega, fun hp => ⟨g, 0, rfl, fun i hi => ?_⟩, fun h => by cases h⟩
    have hown := s.own.cells (g := g) rfl i (.int .u8 (l[i]?.getD 0)) (by rw [List.getElem?_map, List.getElem?_eq_getElem hi]; rfl)
    rwa [Addr.add_mid] at hown
theorem OwnW.bytesN {w0 : World} {e : TypeId} {v : Value} {l : List Int} (s : OwnW w0 e v (l.map (Value.int .u8))) {n : Nat} (hn : l.length = n) : ∃ (a : Option Addr) (cap : Nat), v = .slice a n cap ∧ BytesIn s.w a l cap := by subst hn; exact s.bytes
/-- A literal of bytes that a string shares. -/
theorem lit_bytes {w : World} {l : List Int} {n : Nat} (hn : l.length = n) (hl : l.length ≤ 9223372036854775807) : BytesIn (w.alloc (.cells (byteA l) 5 (n, n + 1))) (some ⟨w.heap.size, 0, none⟩) l n := by
  subst hn
  exact ⟨Nat.le_refl _, hl, fun _ => ⟨w.heap.size, 0, rfl, fun i hi => by rw [Nat.zero_add, cell_of_row _ w.heap.size _ _ _ _ (World.alloc_heap_new w _), byteA_get l hi]⟩, fun h => by cases h⟩

end Go.Proofs.Ytfomidjhmdmmcaa

/- Commands: values, boxed commands, what they say; the description of package command. -/
namespace Go.Proofs.Ytfomidjhmdmmcaa
open Go.RowKit Go.Shelf Go.Proofs.Ytfomidjhmdmmcaa.Plain01
set_option linter.unusedVariables false

/-- A command with the data v. -/
abbrev cmdV (k t f n : Int) (v : Value) : Value := .agg #[.int .i64 k, .int .i64 t, .int .i64 f, .int .i64 n, v]
/-- The bytes that a command writes: how many. -/
def wlen (k n : Int) (L : Nat) : Int := if k = 1 then n else L
/-- The cells of the description of a command. -/
def descA (k t f n : Int) (L : Nat) : Array Value :=
  if k = 1 then #[.int .i64 t, .int .i64 n, .int .i64 1, .int .i64 f, .int .i64 n, .bool (decide (0 < L))]
  else if k = 2 then #[.int .i64 t, .int .i64 L, .int .i64 2, .int .i64 0, .int .i64 0, .bool (decide (f ≠ 0 ∨ n ≠ 0))]
  else #[.int .i64 0, .int .i64 0, .int .i64 0, .int .i64 0, .int .i64 0, .bool false]

theorem descA_copy (t f n : Int) (L : Nat) : descA 1 t f n L = #[.int .i64 t, .int .i64 n, .int .i64 1, .int .i64 f, .int .i64 n, .bool (decide (0 < L))] := by unfold descA; rw [if_pos rfl]
theorem descA_lit (t f n : Int) (L : Nat) : descA 2 t f n L = #[.int .i64 t, .int .i64 L, .int .i64 2, .int .i64 0, .int .i64 0, .bool (decide (f ≠ 0 ∨ n ≠ 0))] := by unfold descA; rw [if_neg (by omega), if_pos rfl]
theorem descA_none {k : Int} (h1 : k ≠ 1) (h2 : k ≠ 2) (t f n : Int) (L : Nat) : descA k t f n L = #[.int .i64 0, .int .i64 0, .int .i64 0, .int .i64 0, .int .i64 0, .bool false] := by unfold descA; rw [if_neg h1, if_neg h2]

/-- New blocks, named. -/
theorem start1 (w : World) (o1 : Obj) : ∃ S : HeldW w [(w.heap.size, o1)], w.alloc o1 = S.w := ⟨(HeldW.start w).push o1, rfl⟩
theorem start2 (w : World) (o1 o2 : Obj) : ∃ S : HeldW w [(w.heap.size + 1, o2), (w.heap.size, o1)], (w.alloc o1).alloc o2 = S.w :=
  ⟨⟨(w.alloc o1).alloc o2, ((Below.refl _ w).alloc (Nat.le_refl _) _).alloc (by simp) _, all2 (heap_new _ o2 (by simp)) (heap_old (heap_new w o1 rfl) _)⟩, rfl⟩
theorem start3 (w : World) (o1 o2 o3 : Obj) : ∃ S : HeldW w [(w.heap.size + 1 + 1, o3), (w.heap.size + 1, o2), (w.heap.size, o1)], ((w.alloc o1).alloc o2).alloc o3 = S.w :=
  ⟨⟨((w.alloc o1).alloc o2).alloc o3, (((Below.refl _ w).alloc (Nat.le_refl _) _).alloc (by simp) _).alloc (by simp; omega) _, all3 (heap_new _ o3 (by simp)) (heap_old (heap_new _ o2 (by simp)) _) (heap_old (heap_old (heap_new w o1 rfl) _) _)⟩, rfl⟩
/-- One more block, named. -/
theorem HeldW.more {w0 : World} {bs : List (Nat × Obj)} (s : HeldW w0 bs) (o : Obj) : ∃ (B : Nat) (S : HeldW w0 ((B, o) :: bs)), B = s.w.heap.size ∧ w0.heap.size ≤ B ∧ s.w.alloc o = S.w := ⟨s.w.heap.size, s.push o, rfl, s.below.size, rfl⟩
theorem HeldW.more1 {w0 : World} {bs : List (Nat × Obj)} (s : HeldW w0 bs) (o : Obj) : ∃ (B : Nat) (S : HeldW w0 ((B, o) :: bs)), B = s.w.heap.size ∧ w0.heap.size ≤ B ∧ (∀ p ∈ bs, p.1 < B) ∧ s.w.alloc o = S.w :=
  ⟨s.w.heap.size, s.push o, rfl, s.below.size, fun p hp => (Array.getElem?_eq_some_iff.1 (s.blocks p hp)).1, rfl⟩
/-- Two more blocks, named. -/
theorem HeldW.more2 {w0 : World} {bs : List (Nat × Obj)} (s : HeldW w0 bs) (o1 o2 : Obj) : ∃ (B : Nat) (S : HeldW w0 ((B + 1, o2) :: (B, o1) :: bs)), B = s.w.heap.size ∧ w0.heap.size ≤ B ∧ (∀ p ∈ bs, p.1 < B) ∧ (s.w.alloc o1).alloc o2 = S.w :=
  ⟨s.w.heap.size, ⟨((s.push o1).push o2).w, ((s.push o1).push o2).below, fun p hp => by
    rcases List.mem_cons.1 hp with rfl | hp
    · exact heap_new _ o2 (by simp)
    · exact (Below.heap_alloc _ _ _ (Array.getElem?_eq_some_iff.1 ((s.push o1).blocks p hp)).1).trans ((s.push o1).blocks p hp)⟩, rfl, s.below.size, fun p hp => (Array.getElem?_eq_some_iff.1 (s.blocks p hp)).1, rfl⟩
/-- An extent is written, the world named. -/
theorem HeldW.putExt {w0 : World} {b : Nat} {x : Int × Int} {bs : List (Nat × Obj)} (s : HeldW w0 ((b, extO x) :: bs)) (hb : w0.heap.size ≤ b) (hne : ∀ p ∈ bs, p.1 ≠ b) (y : Int × Int) :
    ∃ S : HeldW w0 ((b, extO y) :: bs), (s.w.setCell ⟨b, 0, none⟩ (.int .i64 y.1)).setCell ⟨b, 1, none⟩ (.int .i64 y.2) = S.w :=
  ⟨(s.store (i := 0) (v := .int .i64 y.1) hb hne rfl).store (i := 1) (v := .int .i64 y.2) hb hne rfl, rfl⟩


/-- Two new blocks. -/
theorem below2 (w : World) (o1 o2 : Obj) : Below w.heap.size w ((w.alloc o1).alloc o2) := ((Below.refl _ w).alloc (Nat.le_refl _) _).alloc (by simp) _

end Go.Proofs.Ytfomidjhmdmmcaa

/- sort.Search, over a function value that may draw and lay blocks. -/
namespace Go.Proofs.Ytfomidjhmdmmcaa
open Go.RowKit
set_option linter.unusedVariables false
set_option linter.unusedSimpArgs false

/-- The first place at which p holds, or n. -/
structure FirstAt (n : Nat) (p : Nat → Bool) (r : Nat) : Prop where
  le : r ≤ n
  no : ∀ t, t < r → p t = false
  yes : r < n → p r = true
def SearchPost (n : Nat) (p : Nat → Bool) (w : World) (e : Ending) (w' : World) : Prop := ∃ r : Nat, e = .returned (.int .i64 r) ∧ FirstAt n p r ∧ Below w.heap.size w w'

set_option maxRecDepth 100000 in
set_option maxHeartbeats 2000000 in
theorem search_any (cb : Nat) (lb : Array Value) (n : Nat) (p : Nat → Bool) (w : World) (eg : ∀ args w, (callFunc cb args).run Try.prog w = .ok (.enter cb args) w) (hsz : n ≤ 4611686018427387903)
    (hf : ∀ (s : HeldW w []) (i : Nat), i < n → Calls Try.prog cb (#[.int .i64 i] ++ lb) s.w (Gives (.bool (p i)) s.w)) (hmono : ∀ a b, a ≤ b → b < n → p a = true → p b = true) :
    Calls Try.prog 43 #[.int .i64 n, .func (.func cb) #[] lb] w (SearchPost n p w) := by
  have HF := Lib.hid hf
  have HM := Lib.hid hmono
  have hpost : Hid (∀ (r : Nat) (s : HeldW w []), FirstAt n p r → SearchPost n p w (.returned (.int .i64 r)) s.w) := Lib.hid fun r s h => ⟨r, rfl, h, s.below⟩
  clear hf hmono
  go_enter Try.func43, Try.ntmps43
  go_wp2
  go_loopw [5, 6] (fun u v wr => ∃ i j : Nat, i ≤ j ∧ j ≤ n ∧ u = .int .i64 i ∧ v = .int .i64 j ∧ Hid ((∀ t, t < i → p t = false) ∧ (∀ t, j ≤ t → t < n → p t = true)) ∧ ∃ s : HeldW w [], wr = s.w) (fun u v _ => (intOf v).toNat - (intOf u).toNat)
  case atStart => exact ⟨0, n, by omega, by omega, rfl, rfl, Lib.hid ⟨fun t ht => by omega, fun t h1 h2 => by omega⟩, HeldW.start w, rfl⟩
  case round =>
    obtain ⟨i, j, hij, hjn, rfl, rfl, hI, s, rfl⟩ := hrel
    by_cases hlt : i < j
    · obtain ⟨H, hH⟩ : ∃ H, H = (i + j) / 2 := ⟨_, rfl⟩
      have rh : ((i : Int) + (j : Int)) / 2 = (H : Int) := by omega
      have l3 : i ≤ H := by omega
      have l4 : H < j := by omega
      have hc := HF.out s H (by omega)
      clear hH
      cases hp : p H with
      | true =>
        have hstep : Hid ((∀ t, t < i → p t = false) ∧ (∀ t, H ≤ t → t < n → p t = true)) := Lib.hid ⟨hI.out.1, fun t h1 h2 => HM.out H t h1 h2 hp⟩
        rw [hp] at hc
        clear hp
        go_wp2_with (go_at_fn cb; refine (HeldW.call hc).mono ?_; rintro e _ ⟨rfl, s2, rfl⟩)
        go_roundw
        case rel => exact ⟨i, H, by omega, by omega, rfl, by go_num, hstep, s2, rfl⟩
        case measure => simp [intOf]; omega
      | false =>
        have hstep : Hid ((∀ t, t < H + 1 → p t = false) ∧ (∀ t, j ≤ t → t < n → p t = true)) := Lib.hid ⟨fun t h1 => (by
          cases ht : p t with
          | false => rfl
          | true => exact absurd (HM.out t H (by omega) (by omega) ht) (by rw [hp]; simp)), hI.out.2⟩
        rw [hp] at hc
        clear hp
        go_wp2_with (go_at_fn cb; refine (HeldW.call hc).mono ?_; rintro e _ ⟨rfl, s2, rfl⟩)
        go_roundw
        case rel => exact ⟨H + 1, j, by omega, by omega, by go_num, rfl, hstep, s2, rfl⟩
        case measure => simp [intOf]; omega
    · obtain rfl : i = j := by omega
      go_wp2
      go_ret
      exact hpost.out i s ⟨hjn, hI.out.1, fun h => hI.out.2 i (Nat.le_refl _) h⟩
end Go.Proofs.Ytfomidjhmdmmcaa
