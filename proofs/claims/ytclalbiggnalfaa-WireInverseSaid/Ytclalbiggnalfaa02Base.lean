/- Classes of worlds in which a listed block may be written, or a callee may write one old block. -/
import Derived.Deep.MidRow
import Derived.Deep.WholeRow
import Derived.Laws.CopyOwn
import Derived.Test.Ytclalbiggnalfaa00Base
import Derived.Test.Ytclalbiggnalfaa00Tail
namespace Go.Proofs.Ytclalbiggnalfaa
open Go.RowKit
set_option linter.unusedVariables false

/-- A store into a listed block of the call's own. -/
def HeldW.store {w0 : World} {b i : Nat} {cs cs' : Array Value} {t : TypeId} {v : Value} {bs : List (Nat × Obj)} (s : HeldW w0 ((b, .cells cs t (0, 0)) :: bs)) (hb : w0.heap.size ≤ b) (hne : ∀ p ∈ bs, p.1 ≠ b)
    (he : cs.setIfInBounds i v = cs') : HeldW w0 ((b, .cells cs' t (0, 0)) :: bs) :=
  ⟨s.w.setCell ⟨b, i, none⟩ v, s.below.setCell hb v, List.forall_mem_cons.2
    ⟨by subst he; exact heap_setCell_same _ _ _ _ _ _ (s.blocks _ List.mem_cons_self),
     fun p hp => (Below.heap_setCell _ _ _ _ (hne p hp)).trans (s.blocks p (List.mem_cons_of_mem _ hp))⟩⟩

/-- A whole row into a listed block of the call's own. -/
def HeldW.row {w0 : World} {b : Nat} {cs cs' : Array Value} {t : TypeId} {bs : List (Nat × Obj)} (s : HeldW w0 ((b, .cells cs t (0, 0)) :: bs)) (hb : w0.heap.size ≤ b) (hne : ∀ p ∈ bs, p.1 ≠ b) :
    HeldW w0 ((b, .cells cs' t (0, 0)) :: bs) :=
  ⟨s.w.setRow b cs', below_setRow s.below hb cs', List.forall_mem_cons.2
    ⟨setRow_heap _ _ _ _ _ _ (s.blocks _ List.mem_cons_self),
     fun p hp => (setRow_other _ _ _ _ (hne p hp)).trans (s.blocks p (List.mem_cons_of_mem _ hp))⟩⟩

/-- A draw. -/
def HeldW.drawn {w0 : World} {bs : List (Nat × Obj)} (s : HeldW w0 bs) (n : Nat) : HeldW w0 bs := ⟨s.w.drewN n, below_drewN s.below n, s.blocks⟩

/-- Below B nothing but block h has changed. -/
structure But (h B : Nat) (w w' : World) : Prop where
  os : w'.os = w.os
  tape : w'.tape = w.tape
  output : w'.output = w.output
  size : w.heap.size ≤ w'.heap.size
  block : ∀ k, k < B → k ≠ h → w'.heap[k]? = w.heap[k]?
theorem But.refl (h B : Nat) (w : World) : But h B w w := ⟨rfl, rfl, rfl, Nat.le_refl _, fun _ _ _ => rfl⟩
theorem But.of_below {h B : Nat} {w w' : World} (b : Below B w w') : But h B w w' := ⟨b.os, b.tape, b.output, b.size, fun k hk _ => b.block k hk⟩
theorem But.trans {h B : Nat} {a b c : World} (p : But h B a b) (q : But h B b c) : But h B a c :=
  ⟨q.os.trans p.os, q.tape.trans p.tape, q.output.trans p.output, Nat.le_trans p.size q.size, fun i hi hn => (q.block i hi hn).trans (p.block i hi hn)⟩
theorem But.mono {h B B' : Nat} {w w' : World} (p : But h B w w') (hB : B' ≤ B) : But h B' w w' := ⟨p.os, p.tape, p.output, p.size, fun k hk => p.block k (Nat.lt_of_lt_of_le hk hB)⟩
theorem But.below {h B : Nat} {w w' : World} (p : But h B w w') (hB : B ≤ h) : Below B w w' := ⟨p.os, p.tape, p.output, p.size, fun k hk => p.block k hk (by omega)⟩
theorem But.store {h B : Nat} {a w : World} (p : But h B a w) (i : Nat) (v : Value) : But h B a (w.setCell ⟨h, i, none⟩ v) :=
  p.trans ⟨rfl, rfl, rfl, by simp [World.setCell], fun k _ hn => Below.heap_setCell _ _ _ _ hn⟩

/-- It returns v; of what was there only block h has changed: it holds o now. -/
def Puts (h : Nat) (o : Obj) (v : Value) (w : World) (e : Ending) (w' : World) : Prop := e = .returned v ∧ But h w.heap.size w w' ∧ w'.heap[h]? = some o

/-- A world in which nothing below w0's heap but block h has changed since w0, and the listed blocks are what they were. -/
structure HeldX (w0 : World) (h : Nat) (bs : List (Nat × Obj)) where
  w : World
  but : But h w0.heap.size w0 w
  blocks : ∀ p ∈ bs, w.heap[p.1]? = some p.2

abbrev HeldX.start {w : World} {h : Nat} {o : Obj} (ho : w.heap[h]? = some o) : HeldX w h [(h, o)] := ⟨w, But.refl _ _ _, by simpa using ho⟩
abbrev HeldX.push {w0 : World} {h : Nat} {bs : List (Nat × Obj)} (s : HeldX w0 h bs) (o : Obj) : HeldX w0 h ((s.w.heap.size, o) :: bs) :=
  ⟨s.w.alloc o, s.but.trans (But.of_below ((Below.refl _ _).alloc s.but.size o)), List.forall_mem_cons.2 ⟨World.alloc_heap_new s.w o, fun p hp => (Below.heap_alloc _ _ _ (Array.getElem?_eq_some_iff.1 (s.blocks p hp)).1).trans (s.blocks p hp)⟩⟩
abbrev HeldX.sub {w0 : World} {h : Nat} {bs bs' : List (Nat × Obj)} (s : HeldX w0 h bs) (hs : ∀ p ∈ bs', p ∈ bs) : HeldX w0 h bs' := ⟨s.w, s.but, fun p hp => s.blocks p (hs p hp)⟩
def HeldX.drawn {w0 : World} {h : Nat} {bs : List (Nat × Obj)} (s : HeldX w0 h bs) (n : Nat) : HeldX w0 h bs := ⟨s.w.drewN n, ⟨s.but.os, s.but.tape, s.but.output, s.but.size, s.but.block⟩, s.blocks⟩

/-- A callee that changes nothing that was there. -/
theorem HeldX.call {P : Program} {f : FuncId} {args : Array Value} {v : Value} {w0 : World} {h : Nat} {bs : List (Nat × Obj)} {s : HeldX w0 h bs} (hc : Calls P f args s.w (Gives v s.w)) :
    Calls P f args s.w fun e w'' => e = .returned v ∧ ∃ s' : HeldX w0 h bs, w'' = s'.w :=
  hc.mono fun _ w'' ⟨he, hb⟩ => ⟨he, ⟨w'', s.but.trans ((But.of_below hb).mono s.but.size), fun p hp => (hb.block _ (Array.getElem?_eq_some_iff.1 (s.blocks p hp)).1).trans (s.blocks p hp)⟩, rfl⟩

/-- A callee that writes block g, which may be the block that may be written, or one of the call's own. -/
theorem HeldX.puts {P : Program} {f : FuncId} {args : Array Value} {v : Value} {w0 : World} {h g : Nat} {o o' : Obj} {bs : List (Nat × Obj)} {s : HeldX w0 h ((g, o) :: bs)} (hc : Calls P f args s.w (Puts g o' v s.w))
    (hg : g = h ∨ w0.heap.size ≤ g) (hne : ∀ p ∈ bs, p.1 ≠ g) :
    Calls P f args s.w fun e w'' => e = .returned v ∧ ∃ s' : HeldX w0 h ((g, o') :: bs), w'' = s'.w :=
  hc.mono fun _ w'' ⟨he, hb, ho⟩ => ⟨he, ⟨w'', s.but.trans ⟨hb.os, hb.tape, hb.output, hb.size, fun k hk hn => hb.block k (Nat.lt_of_lt_of_le hk s.but.size) (by rcases hg with rfl | hg <;> omega)⟩,
    List.forall_mem_cons.2 ⟨ho, fun p hp => (hb.block _ (Array.getElem?_eq_some_iff.1 (s.blocks p (List.mem_cons_of_mem _ hp))).1 (hne p hp)).trans (s.blocks p (List.mem_cons_of_mem _ hp))⟩⟩, rfl⟩
/-- The same in a law's class of worlds: the block is one of the call's own. -/
theorem HeldW.puts {P : Program} {f : FuncId} {args : Array Value} {v : Value} {w0 : World} {g : Nat} {o o' : Obj} {bs : List (Nat × Obj)} {s : HeldW w0 ((g, o) :: bs)} (hc : Calls P f args s.w (Puts g o' v s.w))
    (hg : w0.heap.size ≤ g) (hne : ∀ p ∈ bs, p.1 ≠ g) :
    Calls P f args s.w fun e w'' => e = .returned v ∧ ∃ s' : HeldW w0 ((g, o') :: bs), w'' = s'.w :=
  hc.mono fun _ w'' ⟨he, hb, ho⟩ => ⟨he, ⟨w'', s.below.trans ⟨hb.os, hb.tape, hb.output, hb.size, fun k hk => hb.block k (Nat.lt_of_lt_of_le hk s.below.size) (by omega)⟩,
    List.forall_mem_cons.2 ⟨ho, fun p hp => (hb.block _ (Array.getElem?_eq_some_iff.1 (s.blocks p (List.mem_cons_of_mem _ hp))).1 (hne p hp)).trans (s.blocks p (List.mem_cons_of_mem _ hp))⟩⟩, rfl⟩

/-- A store into the listed block that may be written. -/
def HeldX.store {w0 : World} {h b i : Nat} {cs cs' : Array Value} {t : TypeId} {v : Value} {bs : List (Nat × Obj)} (s : HeldX w0 h ((b, .cells cs t (0, 0)) :: bs)) (hb : b = h ∨ w0.heap.size ≤ b) (hne : ∀ p ∈ bs, p.1 ≠ b)
    (he : cs.setIfInBounds i v = cs') : HeldX w0 h ((b, .cells cs' t (0, 0)) :: bs) :=
  ⟨s.w.setCell ⟨b, i, none⟩ v, s.but.trans ⟨rfl, rfl, rfl, by simp [World.setCell], fun k hk hn => Below.heap_setCell _ _ _ _ (by simp only; have := s.but.size; omega)⟩, List.forall_mem_cons.2
    ⟨by subst he; exact heap_setCell_same _ _ _ _ _ _ (s.blocks _ List.mem_cons_self),
     fun p hp => (Below.heap_setCell _ _ _ _ (hne p hp)).trans (s.blocks p (List.mem_cons_of_mem _ hp))⟩⟩

/-- A whole row into the listed block that may be written. -/
def HeldX.row {w0 : World} {h b : Nat} {cs : Array Value} {t : TypeId} {bs : List (Nat × Obj)} (s : HeldX w0 h ((b, .cells cs t (0, 0)) :: bs)) (hb : b = h ∨ w0.heap.size ≤ b) (hne : ∀ p ∈ bs, p.1 ≠ b) (cs' : Array Value) :
    HeldX w0 h ((b, .cells cs' t (0, 0)) :: bs) :=
  ⟨s.w.setRow b cs', s.but.trans ⟨rfl, rfl, rfl, by simp, fun k hk hn => setRow_other _ _ _ _ (by have := s.but.size; omega)⟩, List.forall_mem_cons.2
    ⟨setRow_heap _ _ _ _ _ _ (s.blocks _ List.mem_cons_self),
     fun p hp => (setRow_other _ _ _ _ (hne p hp)).trans (s.blocks p (List.mem_cons_of_mem _ hp))⟩⟩

/-- A region that draws its order, in any class of worlds that a draw does not leave: walked once. -/
theorem wp_region_inC {P : Program} {id : Nat} {Q : Exit → Act → World → Prop} {a : Act} {w : World} {l : List Oper} (C : World → Prop) (hm : P.follows .mixedOrders = true) (hB : Region.lexB .any l.toArray = true) (hw : C w.drew)
    (h : wpQuiet P l.toArray C (fun a' => ∀ w', C w' → Q .normal a' w') l a) : (Code.region id l.toArray true).wp P Q a w :=
  wp_region_quiet (C := C) hm hB hw (by simpa using h)
/-- The same, where the operations behind the first n come in one forced order. -/
theorem wp_region_inC_tail {P : Program} {id : Nat} {Q : Exit → Act → World → Prop} {a : Act} {w : World} {l : List Oper} (n : Nat) (C : World → Prop) (hm : P.follows .mixedOrders = true) (hB : Region.lexTailB .any l.toArray n = true) (hw : C w.drew)
    (h : wpQuiet P l.toArray C (fun a' => ∀ w', C w' → wpList P l.toArray Q (l.drop n) a' w') (l.take n) a) : (Code.region id l.toArray true).wp P Q a w := by
  simp only [Region.lexTailB, Bool.and_eq_true, decide_eq_true_eq] at hB
  obtain ⟨⟨⟨⟨hsel, hn⟩, hs⟩, hch⟩, hlex⟩ := hB
  have hn' : n < l.length := by simpa using hn
  have htl : (l.take n).length = n := by simp; omega
  have hdl : (l.drop n).length = l.toArray.size - n := by simp
  have inv0 : HeadInv .any l.toArray n (Array.replicate l.toArray.size false) :=
    ⟨by simp, fun j oj _ hl => (by rw [getD_replicate_false] at hl; cases hl), fun t _ ht => getD_in (by simpa using ht) (getD_replicate_false _ _)⟩
  have H := head_lex (C := C) (md := .any) (g := l.toArray.size - n) hsel hs hch hn (l.take n) 0 _ a (fun j hj => by
    have hj' : j < n := by rw [htl] at hj; exact hj
    simp [hj']) (by simpa using htl) inv0 (by rw [htl]; exact hlex) h
  refine wp_region_any hm ?_
  have := any_of_head (Q' := Q) (g := l.toArray.size - n) (fun listed a' w' hw' hL => by
    have := wpAny_of_seq (md := .any) (Q' := Q) (l.drop n) n listed a' w' (fun j => by simp [List.getElem?_drop]) (by rw [hdl]; exact hL.1) (hL.2 w' hw')
    rwa [hdl] at this) _ _ _ _ hw H
  rw [htl, show n + (l.toArray.size - n) = l.toArray.size by omega] at this
  exact this

/-- HeldX's class. -/
theorem HeldX.drewC {w0 : World} {h : Nat} {bs : List (Nat × Obj)} (s : HeldX w0 h bs) : ∃ s' : HeldX w0 h bs, s.w.drew = s'.w := ⟨⟨s.w.drew, ⟨s.but.os, s.but.tape, s.but.output, s.but.size, s.but.block⟩, s.blocks⟩, rfl⟩
theorem wp_region_X {P : Program} {id : Nat} {Q : Exit → Act → World → Prop} {a : Act} {l : List Oper} {w0 : World} {h : Nat} {bs : List (Nat × Obj)} (s : HeldX w0 h bs) (hm : P.follows .mixedOrders = true) (hB : Region.lexB .any l.toArray = true)
    (H : Nonempty (HeldX w0 h bs) → wpQuiet P l.toArray (fun w' => ∃ s : HeldX w0 h bs, w' = s.w) (fun a' => ∀ w', (∃ s : HeldX w0 h bs, w' = s.w) → Q .normal a' w') l a) : (Code.region id l.toArray true).wp P Q a s.w :=
  wp_region_inC _ hm hB s.drewC (H ⟨s⟩)
theorem wp_region_X_tail {P : Program} {id : Nat} {Q : Exit → Act → World → Prop} {a : Act} {l : List Oper} {w0 : World} {h : Nat} {bs : List (Nat × Obj)} (n : Nat) (s : HeldX w0 h bs) (hm : P.follows .mixedOrders = true) (hB : Region.lexTailB .any l.toArray n = true)
    (H : Nonempty (HeldX w0 h bs) → wpQuiet P l.toArray (fun w' => ∃ s : HeldX w0 h bs, w' = s.w) (fun a' => ∀ w', (∃ s : HeldX w0 h bs, w' = s.w) → wpList P l.toArray Q (l.drop n) a' w') (l.take n) a) : (Code.region id l.toArray true).wp P Q a s.w :=
  wp_region_inC_tail n _ hm hB s.drewC (H ⟨s⟩)

end Go.Proofs.Ytclalbiggnalfaa
