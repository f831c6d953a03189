import Derived.Test.YtefonhnidkfbgaaE07d6
import Derived.Test.YtefonhnidkfbgaaE07d7
import Derived.LoopTactic
import Derived.Test.YtefonhnidkfbgaaE07d3
import Derived.Test.YtefonhnidkfbgaaE07d2
import Derived.Laws.Closers25b
import Derived.Carry
/- A row that grows, whose elements hold slices of bytes that lie apart from it; one further block may be written; some blocks are held. -/
namespace Go.Proofs.Ytefonhnidkfbgaa
open Go.RowKit
set_option linter.unusedVariables false

abbrev Sl7 := Option Addr × List Int × Nat
def slV (p : Sl7) : Value := .slice p.1 p.2.1.length p.2.2
theorem bytes_keep {w w' : World} {a : Option Addr} {l : List Int} {cap : Nat} (h : BytesIn w a l cap) (hk : 0 < l.length → ∀ ad, a = some ad → ad.block < w.heap.size → w'.heap[ad.block]? = w.heap[ad.block]?) : BytesIn w' a l cap :=
  ⟨h.len, h.capb, fun hp => by
    obtain ⟨b, o, rfl, hc⟩ := h.cells hp
    refine ⟨b, o, rfl, fun i hi => ?_⟩
    have hb := World.block_lt_of_cell? _ _ (hc i hi)
    rw [← hc i hi]
    unfold World.cell?
    rw [hk hp _ rfl hb], h.nil⟩
theorem own_keep {w w' : World} {base : Nat} {e : TypeId} {size : Nat} {v : Value} {n : Nat} {xs : List Value} (h : w.ownsRow base e size v n xs) (hk : ∀ g, v.ownBlock = some g → g < w.heap.size → w'.heap[g]? = w.heap[g]?) : w'.ownsRow base e size v n xs :=
  ⟨h.1, h.2.imp id fun ⟨g, cap, cur, e1, e2, e3, e4⟩ => ⟨g, cap, cur, e1, e2, (hk g (by rw [e1]; rfl) (Array.getElem?_eq_some_iff.1 e3).1).trans e3, e4⟩⟩

/-- Below B at most the block h has changed. -/
structure ButO (h : Option Nat) (B : Nat) (w w' : World) : Prop where
  os : w'.os = w.os
  tape : w'.tape = w.tape
  output : w'.output = w.output
  size : w.heap.size ≤ w'.heap.size
  block : ∀ k, k < B → h ≠ some k → w'.heap[k]? = w.heap[k]?
theorem ButO.of_below {h : Option Nat} {B : Nat} {w w' : World} (b : Below B w w') : ButO h B w w' := ⟨b.os, b.tape, b.output, b.size, fun k hk _ => b.block k hk⟩
theorem ButO.of_but {h B : Nat} {w w' : World} (b : But h B w w') : ButO (some h) B w w' := ⟨b.os, b.tape, b.output, b.size, fun k hk hn => b.block k hk (fun e => hn (by rw [e]))⟩
theorem ButO.below {B : Nat} {w w' : World} (b : ButO none B w w') : Below B w w' := ⟨b.os, b.tape, b.output, b.size, fun k hk => b.block k hk (fun h => by cases h)⟩
theorem ButO.below' {h B : Nat} {w w' : World} (b : ButO (some h) B w w') (hB : B ≤ h) : Below B w w' := ⟨b.os, b.tape, b.output, b.size, fun k hk => b.block k hk (fun e => by cases e; omega)⟩
theorem ButO.trans {h : Option Nat} {B : Nat} {a b c : World} (p : ButO h B a b) (q : ButO h B b c) : ButO h B a c :=
  ⟨q.os.trans p.os, q.tape.trans p.tape, q.output.trans p.output, Nat.le_trans p.size q.size, fun i hi hn => (q.block i hi hn).trans (p.block i hi hn)⟩
theorem ButO.mono {h : Option Nat} {B B' : Nat} {w w' : World} (p : ButO h B w w') (hB : B' ≤ B) : ButO h B' w w' := ⟨p.os, p.tape, p.output, p.size, fun k hk => p.block k (Nat.lt_of_lt_of_le hk hB)⟩

/-- The row v of n elements of so many cells. -/
structure Grow (w0 : World) (h : Option Nat) (bs : List (Nat × Obj)) (els : List Sl7) (e : TypeId) (size : Nat) (v : Value) (n : Nat) (xs : List Value) where
  w : World
  but : ButO h w0.heap.size w0 w
  own : w.ownsRow w0.heap.size e size v n xs
  hown : ∀ g, h = some g → v.ownBlock ≠ some g ∧ g < w.heap.size
  blocks : ∀ p ∈ bs, w.heap[p.1]? = some p.2 ∧ v.ownBlock ≠ some p.1
  el : ∀ p ∈ els, BytesIn w p.1 p.2.1 p.2.2 ∧ (0 < p.2.1.length → ∀ ad, p.1 = some ad → v.ownBlock ≠ some ad.block ∧ h ≠ some ad.block)

section
variable {w0 : World} {h : Option Nat} {bs : List (Nat × Obj)} {els : List Sl7} {e : TypeId} {size : Nat} {v : Value} {n : Nat} {xs : List Value}
theorem Grow.ownLt (S : Grow w0 h bs els e size v n xs) {g : Nat} (hg : v.ownBlock = some g) : g < S.w.heap.size := (S.own.lt g hg).2
/-- A step that changes at most block h, and makes new ones. -/
theorem Grow.keep (S : Grow w0 h bs els e size v n xs) {w' : World} (hb : ButO h S.w.heap.size S.w w') (bs' : List (Nat × Obj)) (hbs : ∀ p ∈ bs', w'.heap[p.1]? = some p.2 ∧ v.ownBlock ≠ some p.1) : ∃ S' : Grow w0 h bs' els e size v n xs, w' = S'.w := by
  have hk : ∀ g, v.ownBlock = some g → g < S.w.heap.size → w'.heap[g]? = S.w.heap[g]? := fun g hg hl => hb.block g hl (fun hgh => (S.hown g hgh).1 hg)
  exact ⟨⟨w', S.but.trans ⟨hb.os, hb.tape, hb.output, hb.size, fun k hk hn => hb.block k (Nat.lt_of_lt_of_le hk S.but.size) hn⟩, own_keep S.own hk, fun g hg => ⟨(S.hown g hg).1, Nat.lt_of_lt_of_le (S.hown g hg).2 hb.size⟩, hbs, fun p hp => by
    obtain ⟨h1, h2⟩ := S.el p hp
    exact ⟨bytes_keep h1 fun hl ad had hlt => hb.block _ hlt (h2 hl ad had).2, h2⟩⟩, rfl⟩
theorem Grow.held (S : Grow w0 h bs els e size v n xs) {w' : World} (hb : Below S.w.heap.size S.w w') : ∀ p ∈ bs, w'.heap[p.1]? = some p.2 ∧ v.ownBlock ≠ some p.1 := fun p hp => by
  obtain ⟨h1, h2⟩ := S.blocks p hp
  exact ⟨(hb.block _ (Array.getElem?_eq_some_iff.1 h1).1).trans h1, h2⟩
theorem Grow.later (S : Grow w0 h bs els e size v n xs) {w' : World} (hb : Below S.w.heap.size S.w w') : ∃ S' : Grow w0 h bs els e size v n xs, w' = S'.w :=
  S.keep (ButO.of_below hb) bs (S.held hb)
theorem Grow.drewC (S : Grow w0 h bs els e size v n xs) : ∃ S' : Grow w0 h bs els e size v n xs, S.w.drew = S'.w := S.later (Below.refl _ _).drew
theorem Grow.push (S : Grow w0 h bs els e size v n xs) (o : Obj) : ∃ S' : Grow w0 h ((S.w.heap.size, o) :: bs) els e size v n xs, S.w.alloc o = S'.w :=
  S.keep (ButO.of_below ((Below.refl _ S.w).alloc (Nat.le_refl _) o)) _ (List.forall_mem_cons.2 ⟨⟨World.alloc_heap_new S.w o, fun hg => by have := S.ownLt hg; simp only at this; omega⟩, S.held ((Below.refl _ S.w).alloc (Nat.le_refl _) o)⟩)
theorem Grow.more (S : Grow w0 h bs els e size v n xs) (o : Obj) : ∃ (B : Nat) (S' : Grow w0 h ((B, o) :: bs) els e size v n xs), B = S.w.heap.size ∧ S.w.alloc o = S'.w := by
  obtain ⟨S', hS⟩ := S.push o
  exact ⟨_, S', rfl, hS⟩
theorem Grow.sub (S : Grow w0 h bs els e size v n xs) {bs' : List (Nat × Obj)} (hs : ∀ p ∈ bs', p ∈ bs) : ∃ S' : Grow w0 h bs' els e size v n xs, S.w = S'.w :=
  ⟨⟨S.w, S.but, S.own, S.hown, fun p hp => S.blocks p (hs p hp), S.el⟩, rfl⟩
theorem Grow.elsub (S : Grow w0 h bs els e size v n xs) {els' : List Sl7} (hs : ∀ p ∈ els', p ∈ els) : ∃ S' : Grow w0 h bs els' e size v n xs, S.w = S'.w :=
  ⟨⟨S.w, S.but, S.own, S.hown, S.blocks, fun p hp => S.el p (hs p hp)⟩, rfl⟩
/-- The same row, its number and its cells in other words. -/
theorem Grow.conv (S : Grow w0 h bs els e size v n xs) {n' : Nat} {xs' : List Value} (hn : n = n') (hx : xs = xs') : ∃ S' : Grow w0 h bs els e size v n' xs', S.w = S'.w := by subst hn; subst hx; exact ⟨S, rfl⟩
theorem Grow.call {P : Program} {f : FuncId} {args : Array Value} {u : Value} {S : Grow w0 h bs els e size v n xs} (hc : Calls P f args S.w (Gives u S.w)) :
    Calls P f args S.w fun en w'' => en = .returned u ∧ ∃ S' : Grow w0 h bs els e size v n xs, w'' = S'.w :=
  hc.mono fun _ w'' ⟨he, hb⟩ => ⟨he, S.later hb⟩
/-- One more slice of bytes that lies apart. -/
theorem Grow.addEl (S : Grow w0 h bs els e size v n xs) (p : Sl7) (h1 : BytesIn S.w p.1 p.2.1 p.2.2) (h2 : 0 < p.2.1.length → ∀ ad, p.1 = some ad → v.ownBlock ≠ some ad.block ∧ h ≠ some ad.block) : ∃ S' : Grow w0 h bs (p :: els) e size v n xs, S.w = S'.w :=
  ⟨⟨S.w, S.but, S.own, S.hown, S.blocks, List.forall_mem_cons.2 ⟨⟨h1, h2⟩, S.el⟩⟩, rfl⟩
/-- A new slice of its own that a callee has made: one more. -/
theorem own_sl {w : World} {base : Nat} {u : Value} {l : List Int} (ho : w.ownsRow base 5 1 u l.length (l.map (Value.int .u8))) : ∃ A C, u = .slice A l.length C ∧ BytesIn w A l C ∧ (∀ ad, A = some ad → base ≤ ad.block ∧ ad.block < w.heap.size) := by
  have h2 := ho.2
  rcases h2 with ⟨rfl, h0⟩ | ⟨g, cap, cur, rfl, hg, hb, hc, hm, hs, ht⟩
  · exact ⟨none, 0, by rw [h0], ⟨by omega, by omega, fun hp => by omega, fun _ => rfl⟩, fun ad h => by cases h⟩
  · refine ⟨_, cap, rfl, ⟨hc, by unfold maxLen at hm; omega, fun hp => ⟨g, 0, rfl, fun i hi => ?_⟩, fun h => by cases h⟩, fun ad h => by cases h; exact ⟨hg, (Array.getElem?_eq_some_iff.1 hb).1⟩⟩
    have hx : (l.map (Value.int .u8))[i]? = some (.int .u8 (l[i]?.getD 0)) := by rw [List.getElem?_map, List.getElem?_eq_getElem hi]; rfl
    have := ho.cells (g := g) rfl i _ hx
    rwa [Addr.add_mid] at this

/-- An append to the row. -/
theorem Grow.run_append {P : Program} {t : TypeId} (E : ElemS P t e size) (S : Grow w0 h bs els e size v n xs) (ty : TypeId) (ad : Addr) (m c : Nat) (news : List Value) (hl : news.length = m * size)
    (hnews : ∀ j u, news[j]? = some u → S.w.cell? (ad.add j) = some u) (h1 : ∀ u ∈ news, u.oneCell' = true) (h63 : n + m ≤ maxLen) (hbytes : (n + m) * E.bytes ≤ 140737488355328) :
    ∃ v' w', (Builtin.append_ #[t, t] ty #[v, .slice (some ad) m c]).run P S.w = .ok v' w' ∧ ∃ S' : Grow w0 h bs els e size v' (n + m) (xs ++ news), w' = S'.w := by
  obtain ⟨v', w', hrun, ho, hg, hiff⟩ := run_append_own (P := P) S.w w0.heap.size t ty e E.i E.z size E.bytes E.ht E.hi E.hz E.hsize E.hby E.hzs E.hsz v n xs S.own ad m c news hl hnews h1 h63 hbytes S.but.size
  have hblk := append_block E ty S.own ad hl hnews h1 h63 hbytes hrun hiff
  have hne : ∀ k, k < S.w.heap.size → v.ownBlock ≠ some k → v'.ownBlock ≠ some k := fun k hk hv hv' => by
    rcases hblk with hb | hb
    · rw [hb] at hv'; exact hv hv'
    · rw [hb] at hv'; cases hv'; omega
  have hkeep : ∀ k, k < S.w.heap.size → v.ownBlock ≠ some k → w'.heap[k]? = S.w.heap[k]? := fun k hk hv => hg.block k hk (fun he => hv he.symm)
  refine ⟨v', w', hrun, ⟨w', S.but.trans ⟨hg.os, hg.tape, hg.output, hg.size, fun k hk hn => hg.block k (Nat.lt_of_lt_of_le hk S.but.size) (fun he => ?_)⟩, ho, fun g hgh => ⟨hne g (S.hown g hgh).2 (S.hown g hgh).1, Nat.lt_of_lt_of_le (S.hown g hgh).2 hg.size⟩, fun p hp => ?_, fun p hp => ?_⟩, rfl⟩
  · have := (S.own.lt k he.symm).1
    omega
  · obtain ⟨h1, h2⟩ := S.blocks p hp
    have hlt := (Array.getElem?_eq_some_iff.1 h1).1
    exact ⟨(hkeep _ hlt h2).trans h1, hne _ hlt h2⟩
  · obtain ⟨h1, h2⟩ := S.el p hp
    refine ⟨bytes_keep h1 fun hl ad had hlt => hkeep _ hlt (h2 hl ad had).1, fun hl ad had => ?_⟩
    obtain ⟨b, o, he, hc⟩ := h1.cells hl
    have hlt := World.block_lt_of_cell? _ _ (hc 0 hl)
    obtain ⟨h3, h4⟩ := h2 hl ad had
    rw [he] at had
    cases had
    exact ⟨hne _ hlt h3, h4⟩
theorem Grow.append {P : Program} {t : TypeId} (E : ElemS P t e size) {ops : Array Oper} {rest : List Oper} {o : Oper} {a : Act} {Q : Exit → Act → World → Prop} (S : Grow w0 h bs els e size v n xs) (sO srcO : Operand)
    (hgd : o.guard = none) (ho : o.op = .call { callee := .builtin .append, args := #[sO, srcO], argTypes := #[t, t] }) (hs : a.eval sO = v) (ad : Addr) (m c : Nat) (news : List Value) (hl : news.length = m * size) (hx : a.eval srcO = .slice (some ad) m c)
    (hnews : ∀ j u, news[j]? = some u → S.w.cell? (ad.add j) = some u) (h1 : ∀ u ∈ news, u.oneCell' = true) (h63 : n + m ≤ maxLen) (hbytes : (n + m) * E.bytes ≤ 140737488355328)
    (H : ∀ v' (S' : Grow w0 h bs els e size v' (n + m) (xs ++ news)), wpList P ops Q rest (a.put o.dst v') S'.w) : wpList P ops Q (o :: rest) a S.w := by
  obtain ⟨v', w', hrun, S', rfl⟩ := S.run_append E o.type ad m c news hl hnews h1 h63 hbytes
  refine wpList_plain hgd fun K hK => ?_
  unfold Oper.wp
  simp [execOp, ho, resolve, invoke, builtin, hs, hx, hrun, Result.andThen]
  exact hK _ _ (H v' S')
/-- The same of a source that may be nil. -/
theorem Grow.appendO {P : Program} {t : TypeId} (E : ElemS P t e size) {ops : Array Oper} {rest : List Oper} {o : Oper} {a : Act} {Q : Exit → Act → World → Prop} (S : Grow w0 h bs els e size v n xs) (sO srcO : Operand)
    (hgd : o.guard = none) (ho : o.op = .call { callee := .builtin .append, args := #[sO, srcO], argTypes := #[t, t] }) (hs : a.eval sO = v) (sp : Option Addr) (m c : Nat) (news : List Value) (hl : news.length = m * size) (hx : a.eval srcO = .slice sp m c) (hnil : sp = none → m = 0 ∧ c = 0)
    (hnews : ∀ ad, sp = some ad → ∀ j u, news[j]? = some u → S.w.cell? (ad.add j) = some u) (h1 : ∀ u ∈ news, u.oneCell' = true) (h63 : n + m ≤ maxLen) (hbytes : (n + m) * E.bytes ≤ 140737488355328)
    (H : ∀ v' (S' : Grow w0 h bs els e size v' (n + m) (xs ++ news)), wpList P ops Q rest (a.put o.dst v') S'.w) : wpList P ops Q (o :: rest) a S.w := by
  cases sp with
  | some ad => exact S.append E sO srcO hgd ho hs ad m c news hl hx (hnews ad rfl) h1 h63 hbytes H
  | none =>
    obtain ⟨rfl, rfl⟩ := hnil rfl
    obtain rfl := List.eq_nil_of_length_eq_zero (by rw [hl, Nat.zero_mul])
    have hrun := run_append_owned_none (P := P) (w := S.w) w0.heap.size t o.type e E.i size E.ht E.hi v n xs S.own
    refine wpList_plain hgd fun K hK => ?_
    unfold Oper.wp
    simp [execOp, ho, resolve, invoke, builtin, hs, hx, hrun, Result.andThen]
    obtain ⟨S', hS'⟩ := S.conv (n' := n + 0) (xs' := xs ++ []) rfl (by simp)
    rw [hS']
    exact hK _ _ (H v S')
/-- A callee's new slice takes the place of the row. -/
theorem Grow.swap (S : Grow w0 h bs els e size v n xs) {e' : TypeId} {v' : Value} {xs' : List Value} (so : OwnW S.w e' v' xs') : ∃ S' : Grow w0 h bs els e' 1 v' xs'.length xs', so.w = S'.w := by
  have hge : ∀ g, v'.ownBlock = some g → S.w.heap.size ≤ g := fun g hg => (so.own.lt g hg).1
  refine ⟨⟨so.w, S.but.trans (ButO.of_below (so.below.mono S.but.size)), ⟨so.own.1, so.own.2.imp id fun ⟨g, cap, cur, e1, e2, e3⟩ => ⟨g, cap, cur, e1, Nat.le_trans S.but.size e2, e3⟩⟩, fun g hg => ⟨fun hv => ?_, Nat.lt_of_lt_of_le (S.hown g hg).2 so.below.size⟩, fun p hp => ?_, fun p hp => ?_⟩, rfl⟩
  · have := hge g hv
    have := (S.hown g hg).2
    omega
  · obtain ⟨h1, h2⟩ := S.blocks p hp
    have hlt := (Array.getElem?_eq_some_iff.1 h1).1
    exact ⟨(so.below.block _ hlt).trans h1, fun hv => by have := hge _ hv; omega⟩
  · obtain ⟨h1, h2⟩ := S.el p hp
    refine ⟨h1.below so.below, fun hl ad had => ⟨fun hv => ?_, (h2 hl ad had).2⟩⟩
    obtain ⟨b, o, he, hc⟩ := h1.cells hl
    have hlt := World.block_lt_of_cell? _ _ (hc 0 hl)
    rw [he] at had
    cases had
    have := hge _ hv
    simp only at this hlt
    omega
end

/-- The row as bytes. -/
theorem Grow.bytes {w0 : World} {h : Option Nat} {bs : List (Nat × Obj)} {els : List Sl7} {v : Value} {n : Nat} {l : List Int} (S : Grow w0 h bs els 5 1 v n (l.map (Value.int .u8))) : l.length = n ∧ ∃ a cap, v = .slice a n cap ∧ BytesIn S.w a l cap := by
  have hl : l.length = n := by have := S.own.1; simpa using this
  subst hl
  obtain ⟨A, C, h1, h2, -⟩ := own_sl S.own
  exact ⟨rfl, A, C, h1, h2⟩
theorem Grow.ofOwn {w0 : World} {e : TypeId} {v : Value} {xs : List Value} (s : OwnW w0 e v xs) : ∃ S : Grow w0 none [] [] e 1 v xs.length xs, s.w = S.w :=
  ⟨⟨s.w, ButO.of_below s.below, s.own, (fun g hg => by cases hg), (fun p hp => by simp at hp), (fun p hp => by simp at hp)⟩, rfl⟩

section
variable {w0 : World} {h : Nat} {bs : List (Nat × Obj)} {els : List Sl7} {e : TypeId} {size : Nat} {v : Value} {n : Nat} {xs : List Value}
/-- A callee that writes block h. -/
theorem Grow.puts {P : Program} {f : FuncId} {args : Array Value} {u : Value} {o o' : Obj} {S : Grow w0 (some h) ((h, o) :: bs) els e size v n xs} (hne : ∀ p ∈ bs, p.1 ≠ h) (hc : Calls P f args S.w (Puts h o' u S.w)) :
    Calls P f args S.w fun en w'' => en = .returned u ∧ ∃ S' : Grow w0 (some h) ((h, o') :: bs) els e size v n xs, w'' = S'.w :=
  hc.mono fun _ w'' ⟨he, hb, ho⟩ => ⟨he, S.keep (ButO.of_but hb) _ (List.forall_mem_cons.2 ⟨⟨ho, (S.hown h rfl).1⟩, fun p hp => by
    obtain ⟨h1, h2⟩ := S.blocks p (List.mem_cons_of_mem _ hp)
    exact ⟨(hb.block _ (Array.getElem?_eq_some_iff.1 h1).1 (hne p hp)).trans h1, h2⟩⟩)⟩
theorem Grow.makesPuts {P : Program} {f : FuncId} {args : Array Value} {l : List Int} {o o' : Obj} {S : Grow w0 (some h) ((h, o) :: bs) els e size v n xs} (hne : ∀ p ∈ bs, p.1 ≠ h) (hc : Calls P f args S.w (MakesPuts h o' l S.w)) :
    Calls P f args S.w fun en w'' => ∃ A C, en = .returned (.slice A l.length C) ∧ ∃ S' : Grow w0 (some h) ((h, o') :: bs) ((A, l, C) :: els) e size v n xs, w'' = S'.w :=
  hc.mono fun _ w'' ⟨u, he, hb, ho, hrow⟩ => by
    obtain ⟨A, C, rfl, hB, hA⟩ := own_sl hrow
    obtain ⟨S1, h1⟩ := S.keep (ButO.of_but hb) ((h, o') :: bs) (List.forall_mem_cons.2 ⟨⟨ho, (S.hown h rfl).1⟩, fun p hp => by
      obtain ⟨h1, h2⟩ := S.blocks p (List.mem_cons_of_mem _ hp)
      exact ⟨(hb.block _ (Array.getElem?_eq_some_iff.1 h1).1 (hne p hp)).trans h1, h2⟩⟩)
    rw [h1] at hB
    obtain ⟨S2, h2⟩ := S1.addEl (A, l, C) hB (fun _ ad had => by
      have := hA ad had
      refine ⟨fun hg => ?_, fun hg => ?_⟩
      · have := S.ownLt hg
        omega
      · have := (S.hown _ hg).2
        omega)
    exact ⟨A, C, he, S2, h1.trans h2⟩
end

/-- The first elements of a row of slices, in a new block. -/
theorem Grow.init (W : World) (els : List Sl7) (cs : Array Value) (hcs : cs = (els.map slV).toArray) (hel : ∀ p ∈ els, BytesIn W p.1 p.2.1 p.2.2) (n : Nat) (hn : els.length = n) (hl : n ≤ 1000) :
    ∃ S : Grow W none [] els 22 1 (.slice (some ⟨W.heap.size, 0, none⟩) n n) n (els.map slV), W.alloc (.cells cs 22) = S.w := by
  subst hn
  have hb : Below W.heap.size W (W.alloc (.cells cs 22)) := (Below.refl _ W).alloc (Nat.le_refl _) _
  have hsz : cs.size = els.length * 1 := by rw [hcs]; simp
  have htk : cs.toList.take (els.length * 1) = els.map slV := by rw [hcs, Nat.mul_one]; exact List.take_of_length_le (by simp)
  have hown : (W.alloc (.cells cs 22)).ownsRow W.heap.size 22 1 (.slice (some ⟨W.heap.size, 0, none⟩) els.length els.length) els.length (els.map slV) :=
    ⟨by rw [List.length_map, Nat.mul_one], .inr ⟨W.heap.size, els.length, cs, rfl, Nat.le_refl _, World.alloc_heap_new W _, Nat.le_refl _, (by unfold maxLen; omega), hsz, htk⟩⟩
  refine ⟨⟨_, ButO.of_below hb, hown, (fun g hg => by cases hg), (fun p hp => by simp at hp), (fun p hp => ⟨(hel p hp).below hb, fun hl ad had => ⟨fun hg => ?_, (fun hg => by cases hg)⟩⟩)⟩, rfl⟩
  obtain ⟨b, o, he, hc⟩ := (hel p hp).cells hl
  have hlt := World.block_lt_of_cell? _ _ (hc 0 hl)
  rw [he] at had
  cases had
  simp [Value.ownBlock] at hg
  simp only at hlt
  omega
end Go.Proofs.Ytefonhnidkfbgaa

/- bytes.Equal. -/
namespace Go.Proofs.Ytefonhnidkfbgaa
open Go.RowKit
set_option linter.unusedVariables false

set_option maxRecDepth 100000 in
theorem bequal8_any (l m : List Int) (a b : Option Addr) (cap cap' : Nat) (w : World) (hl : BytesIn w a l cap) (hm : BytesIn w b m cap') (okl : OkB l) (okm : OkB m) :
    Calls Try.prog 43 #[.slice a l.length cap, .slice b m.length cap'] w (Gives (.bool (decide (l = m))) w) := by
  have h1 := conv_str hl
  have h2 := conv_str hm
  have he := str_eq okl okm
  generalize decide (l = m) = d at he ⊢
  generalize strOf l = x at h1 he
  generalize strOf m = y at h2 he
  have HE := Lib.hid he
  clear hl hm okl okm he
  go_enter Try.func43, Try.ntmps43
  go_wp2
  go_ret
  exact ⟨by (rw [HE.out]; rfl), Below.refl _ w⟩

end Go.Proofs.Ytefonhnidkfbgaa

/- What a reader does, in numbers: one function each for Fail, Uint, Length, Bytes and Expect; the methods of package wire do so. -/
namespace Go.Proofs.Ytefonhnidkfbgaa
open Go.RowKit
set_option linter.unusedVariables false
set_option linter.unusedSimpArgs false

/-- The offset, and the code and the place of the fault. -/
structure RS where
  n : Nat
  c : Int
  p : Int
def RS.fail (s : RS) (c p : Int) : RS := if s.c = 0 ∧ c ≠ 0 then ⟨s.n, c, p⟩ else s
def uintR (D : List Int) (k : Int) (s : RS) : Int × RS :=
  if s.c ≠ 0 then (0, s) else if ¬ (1 ≤ k ∧ k ≤ 8) then (0, ⟨s.n, 2, s.n⟩) else if (D.length : Int) - s.n < k then (0, ⟨s.n, 8, D.length⟩) else (beval ((D.drop s.n).take k.toNat), ⟨s.n + k.toNat, 0, s.p⟩)
def lengthR (D : List Int) (s : RS) : Int × RS := if 4611686018427387903 < (uintR D 8 s).1 then (0, (uintR D 8 s).2.fail 2 s.n) else uintR D 8 s
def bytesR (D : List Int) (k : Int) (s : RS) : List Int × RS :=
  if s.c ≠ 0 then ([], s) else if k < 0 then ([], ⟨s.n, 2, s.n⟩) else if (D.length : Int) - s.n < k then ([], ⟨s.n, 8, D.length⟩) else ((D.drop s.n).take k.toNat, ⟨s.n + k.toNat, 0, s.p⟩)
def expectR (D B : List Int) (code : Int) (s : RS) : Bool × RS :=
  if s.c ≠ 0 then (false, s) else if (D.drop s.n).take (min B.length (D.length - s.n)) ≠ B.take (min B.length (D.length - s.n)) then (false, s.fail code s.n)
  else if D.length - s.n < B.length then (false, ⟨s.n, 8, D.length⟩) else (true, ⟨s.n + B.length, 0, s.p⟩)

theorem RS.fail_n (s : RS) (c p : Int) : (s.fail c p).n = s.n := by unfold RS.fail; split <;> rfl
theorem uintR_n (D : List Int) (k : Int) (s : RS) (h : s.n ≤ D.length) : (uintR D k s).2.n ≤ D.length := by
  unfold uintR
  split
  · exact h
  · split
    · exact h
    · split
      · exact h
      · simp only; omega
theorem beval_bound (l : List Int) : 0 ≤ beval l ∧ beval l ≤ 18446744073709551615 := by
  rcases List.eq_nil_or_concat l with rfl | ⟨m, x, rfl⟩
  · exact ⟨Int.le_refl _, by decide⟩
  · unfold beval
    rw [List.concat_eq_append, List.foldl_append]
    exact bits_within .or .u64 _ _
theorem uintR_bound (D : List Int) (k : Int) (s : RS) : 0 ≤ (uintR D k s).1 ∧ (uintR D k s).1 ≤ 18446744073709551615 := by
  unfold uintR
  split
  · simp
  · split
    · simp
    · split
      · simp
      · exact beval_bound _

/-- The block of a reader in such a state. -/
abbrev rsO (s : RS) (L : Nat) (da : Option Addr) (dcap : Nat) : Obj := rdO s.n L da dcap s.c s.p

section
variable (g dcap : Nat) (da : Option Addr) (D : List Int) (s : RS) (w : World)
theorem wfail_all (L : Nat) (code at_ : Int) (h : w.heap[g]? = some (rsO s L da dcap)) : Calls Try.prog 13 #[.pointer (some ⟨g, 0, none⟩), .int .i64 code, .int .i64 at_] w (Puts g (rsO (s.fail code at_) L da dcap) (.tuple #[]) w) := by
  obtain ⟨n, c, p⟩ := s
  by_cases h0 : c = 0
  · subst h0
    by_cases hc : code = 0
    · have e : (RS.fail ⟨n, 0, p⟩ code at_) = ⟨n, 0, p⟩ := by unfold RS.fail; rw [if_neg (by simp [hc])]
      rw [e]
      subst hc
      have hr := ready_any g n L dcap da 0 p w h
      rw [decide_eq_true rfl] at hr
      have HH := Lib.hid h
      clear h e
      go_enter Try.func13, Try.ntmps13
      go_wp2_with (refine hr.mono ?_; rintro e _ ⟨rfl, rfl⟩)
      go_end0
      exact ⟨rfl, But.refl _ _ _, HH.out⟩
    · have e : (RS.fail ⟨n, 0, p⟩ code at_) = ⟨n, code, at_⟩ := by unfold RS.fail; rw [if_pos ⟨rfl, hc⟩]
      rw [e]
      exact fail_any g n L dcap da p code at_ w h hc
  · have e : (RS.fail ⟨n, c, p⟩ code at_) = ⟨n, c, p⟩ := by unfold RS.fail; rw [if_neg (fun h => h0 h.1)]
    rw [e]
    exact gives_puts h (fail_no g n L dcap da c p code at_ w h h0)
theorem wuint_all (k : Int) (h : w.heap[g]? = some (rsO s D.length da dcap)) (hn : s.n ≤ D.length) (hD : BytesIn w da D dcap) :
    Calls Try.prog 33 #[.pointer (some ⟨g, 0, none⟩), .int .i64 k] w (Puts g (rsO (uintR D k s).2 D.length da dcap) (.int .u64 (uintR D k s).1) w) := by
  obtain ⟨n, c, p⟩ := s
  simp only at hn
  have hL : D.length ≤ 9223372036854775807 := Nat.le_trans hD.len hD.capb
  by_cases h0 : c = 0
  · subst h0
    by_cases h1 : 1 ≤ k ∧ k ≤ 8
    · by_cases h2 : (D.length : Int) - n < k
      · have e : uintR D k ⟨n, 0, p⟩ = (0, ⟨n, 8, D.length⟩) := by unfold uintR; rw [if_neg (by simp), if_neg (by simpa using h1), if_pos h2]
        rw [e]
        exact uint_short g n D.length dcap da w p k h h1 hn hL h2
      · have e : uintR D k ⟨n, 0, p⟩ = (beval ((D.drop n).take k.toNat), ⟨n + k.toNat, 0, p⟩) := by unfold uintR; rw [if_neg (by simp), if_neg (by simpa using h1), if_neg h2]
        rw [e]
        have := uint_ok g n dcap da w D p k.toNat h (by omega) (by omega) hD
        rw [Int.toNat_of_nonneg (by omega)] at this
        exact this
    · have e : uintR D k ⟨n, 0, p⟩ = (0, ⟨n, 2, n⟩) := by unfold uintR; rw [if_neg (by simp), if_pos h1]
      rw [e]
      exact uint_range g n D.length dcap da w p k h h1
  · have e : uintR D k ⟨n, c, p⟩ = (0, ⟨n, c, p⟩) := by unfold uintR; rw [if_pos h0]
    rw [e]
    exact gives_puts h (uint_not g n D.length dcap da w c p k h h0)

set_option maxRecDepth 100000 in
theorem wlength_all (h : w.heap[g]? = some (rsO s D.length da dcap)) (hn : s.n ≤ D.length) (hD : BytesIn w da D dcap) :
    Calls Try.prog 30 #[.pointer (some ⟨g, 0, none⟩)] w (Puts g (rsO (lengthR D s).2 D.length da dcap) (.int .i64 (lengthR D s).1) w) := by
  have ha := at_any g s.n D.length dcap da s.c s.p w h
  have hu := wuint_all g dcap da D s w 8 h hn hD
  have hb := uintR_bound D 8 s
  obtain ⟨r, hr⟩ : ∃ r, r = uintR D 8 s := ⟨_, rfl⟩
  have hlr : lengthR D s = if 4611686018427387903 < r.1 then (0, r.2.fail 2 s.n) else r := by rw [hr]; rfl
  rw [← hr] at hu hb
  rw [hlr]
  obtain ⟨v, s2⟩ := r
  simp only at hu hb ⊢
  have hf := fun (W : World) (H : W.heap[g]? = some (rsO s2 D.length da dcap)) => wfail_all g dcap da s2 W D.length 2 s.n H
  have HF := Lib.hid hf
  obtain ⟨N, hN⟩ : ∃ N, N = s.n := ⟨_, rfl⟩
  rw [← hN] at ha HF ⊢
  by_cases hv : 4611686018427387903 < v
  · have hd : decide (4611686018427387903 < v) = true := decide_eq_true hv
    rw [if_pos hv]
    clear hf h hD hlr hr hN hv
    go_enter Try.func30, Try.ntmps30
    go_wp2_with fail
    refine ha.mono ?_
    rintro e _ ⟨rfl, rfl⟩
    go_wp2_with fail
    refine hu.mono ?_
    rintro e w1 ⟨rfl, hb1, ho1⟩
    go_wp2_with fail
    refine (HF.out w1 ho1).mono ?_
    rintro e w2 ⟨rfl, hb2, ho2⟩
    go_wp2
    go_ret
    exact ⟨rfl, hb1.trans (hb2.mono hb1.size), ho2⟩
  · have hd : decide (4611686018427387903 < v) = false := decide_eq_false hv
    rw [if_neg hv]
    clear hf h hD hlr hr hN HF
    go_enter Try.func30, Try.ntmps30
    go_wp2_with fail
    refine ha.mono ?_
    rintro e _ ⟨rfl, rfl⟩
    go_wp2_with fail
    refine hu.mono ?_
    rintro e w1 ⟨rfl, hb1, ho1⟩
    go_wp2
    go_ret
    exact ⟨rfl, hb1, ho1⟩

/-- Bytes: a new slice. -/
theorem wbytes_all (k : Int) (h : w.heap[g]? = some (rsO s D.length da dcap)) (hn : s.n ≤ D.length) (hD : BytesIn w da D dcap) (hk : k ≤ 1000000000) :
    Calls Try.prog 31 #[.pointer (some ⟨g, 0, none⟩), .int .i64 k] w (MakesPuts g (rsO (bytesR D k s).2 D.length da dcap) (bytesR D k s).1 w) := by
  obtain ⟨n, c, p⟩ := s
  simp only at hn
  have hL : D.length ≤ 9223372036854775807 := Nat.le_trans hD.len hD.capb
  have hnil : ∀ {o : Obj} {e : Ending} {w' : World}, Puts g o (.slice none 0 0) w e w' → MakesPuts g o [] w e w' := fun ⟨he, hb, ho⟩ => ⟨_, he, hb, ho, World.ownsRow_nil _ w.heap.size 5 1⟩
  by_cases h0 : c = 0
  · subst h0
    by_cases h1 : k < 0
    · have e : bytesR D k ⟨n, 0, p⟩ = ([], ⟨n, 2, n⟩) := by unfold bytesR; rw [if_neg (by simp), if_pos h1]
      rw [e]
      exact (bytes_range g n D.length dcap da w p k h h1).mono fun _ _ => hnil
    · by_cases h2 : (D.length : Int) - n < k
      · have e : bytesR D k ⟨n, 0, p⟩ = ([], ⟨n, 8, D.length⟩) := by unfold bytesR; rw [if_neg (by simp), if_neg h1, if_pos h2]
        rw [e]
        exact (bytes_short g n D.length dcap da w p k h (by omega) hn hL h2).mono fun _ _ => hnil
      · have e : bytesR D k ⟨n, 0, p⟩ = ((D.drop n).take k.toNat, ⟨n + k.toNat, 0, p⟩) := by unfold bytesR; rw [if_neg (by simp), if_neg h1, if_neg h2]
        rw [e]
        have := bytes_ok g n dcap da w D p k.toNat h (by omega) hD (by omega)
        rw [Int.toNat_of_nonneg (by omega)] at this
        exact this
  · have e : bytesR D k ⟨n, c, p⟩ = ([], ⟨n, c, p⟩) := by unfold bytesR; rw [if_pos h0]
    rw [e]
    exact (gives_puts h (bytes_not g n D.length dcap da w c p k h h0)).mono fun _ _ => hnil
end
end Go.Proofs.Ytefonhnidkfbgaa

/- Expect of package wire. -/
namespace Go.Proofs.Ytefonhnidkfbgaa
open Go.RowKit
set_option linter.unusedVariables false
set_option linter.unusedSimpArgs false

abbrev boolO (b : Bool) : Obj := .cells #[.bool b] 4 (0, 0)
theorem expectC_any (V : Nat) (v : Value) (w : World) (hV : w.heap[V]? = some (boolO false)) : Calls Try.prog 45 #[v, .pointer (some ⟨V, 0, none⟩)] w (Puts V (boolO true) (.tuple #[]) w) := by
  have c0 : w.cell? ⟨V, 0, none⟩ = some (.bool false) := by rw [cell_of hV]; rfl
  have f0 := free_of hV 0
  have hfin : Hid (But V w.heap.size w (w.setCell ⟨V, 0, none⟩ (.bool true)) ∧ (w.setCell ⟨V, 0, none⟩ (.bool true)).heap[V]? = some (boolO true)) := Lib.hid ⟨(But.refl V _ w).store 0 _, by rw [heap_setCell_same _ _ _ _ _ _ hV]; rfl⟩
  clear hV
  go_enter Try.func45, Try.ntmps45
  go_wp2
  go_end0
  exact ⟨rfl, hfin.out⟩

set_option maxRecDepth 100000 in
set_option maxHeartbeats 4000000 in
/-- A reader without a fault. -/
theorem wexpect_ready (g dcap n : Nat) (da : Option Addr) (D B : List Int) (ba : Option Addr) (bcap : Nat) (p code : Int) (w : World) (h : w.heap[g]? = some (rdO n D.length da dcap 0 p)) (hn : n ≤ D.length) (hD : BytesIn w da D dcap) (hB : BytesIn w ba B bcap) (okD : OkB D) (okB : OkB B) :
    Calls Try.prog 29 #[.pointer (some ⟨g, 0, none⟩), .slice ba B.length bcap, .int .i64 code] w (Puts g (rsO (expectR D B code ⟨n, 0, p⟩).2 D.length da dcap) (.bool (expectR D B code ⟨n, 0, p⟩).1) w) := by
  have hL : D.length ≤ 9223372036854775807 := Nat.le_trans hD.len hD.capb
  have hBL : B.length ≤ 9223372036854775807 := Nat.le_trans hB.len hB.capb
  obtain ⟨R, hR⟩ : ∃ R, R = D.length - n := ⟨_, rfl⟩
  obtain ⟨m, hm⟩ : ∃ m, m = min B.length R := ⟨_, rfl⟩
  have hm1 : m ≤ B.length := by omega
  have hm2 : n + m ≤ D.length := by omega
  have hr := ready_any g n D.length dcap da 0 p w h
  rw [decide_eq_true rfl] at hr
  have hl := fun s : HeldW w [] => left_any g n D.length dcap da 0 p s.w (heap_below h s.below) hn hL
  rw [show (D.length : Int) - n = (R : Int) by omega] at hl
  obtain ⟨A, hsl, hA⟩ := cut_mid hD n (n + m) (by omega) hm2
  rw [show n + m - n = m by omega] at hsl hA
  rw [show ((n + m : Nat) : Int) = (n : Int) + (m : Int) by omega] at hsl
  obtain ⟨A2, hsl2, hA2⟩ := cutb_h hB m hm1
  obtain ⟨X, hX⟩ : ∃ X, X = (D.drop n).take m := ⟨_, rfl⟩
  obtain ⟨Y, hY⟩ : ∃ Y, Y = B.take m := ⟨_, rfl⟩
  rw [← hX] at hA
  rw [← hY] at hA2
  have hXl : X.length = m := by rw [hX, List.length_take, List.length_drop]; omega
  have hYl : Y.length = m := by rw [hY, List.length_take]; omega
  have okX : OkB X := fun x hx => okD x (List.mem_of_mem_drop (List.mem_of_mem_take (hX ▸ hx)))
  have okY : OkB Y := fun x hx => okB x (List.mem_of_mem_take (hY ▸ hx))
  have heq := fun s : HeldW w [] => bequal8_any X Y A A2 (dcap - n) bcap s.w (hA.W s) (hA2.W s) okX okY
  rw [hXl, hYl] at heq
  have hexp : expectR D B code ⟨n, 0, p⟩ = if X ≠ Y then (false, RS.fail ⟨n, 0, p⟩ code n) else if R < B.length then (false, ⟨n, 8, D.length⟩) else (true, ⟨n + B.length, 0, p⟩) := by
    unfold expectR
    rw [if_neg (by simp)]
    simp only [← hR, ← hm, ← hX, ← hY]
  rw [hexp]
  have c0 := fun s : HeldW w [] => (rd_cellsW h s).1
  have c2 := fun s : HeldW w [] => (rd_cellsW h s).2.2.1
  have HH := Lib.hid h
  have hg := (Array.getElem?_eq_some_iff.1 h).1
  have HR := Lib.hid hR
  have HM := Lib.hid hm
  have HD := Lib.hid hD
  generalize hBl : B.length = BL at *
  generalize hDl : D.length = L at *
  have HDL := Lib.hid hDl
  clear hn hD hB okD okB h hA hA2 hX hY okX okY hR hm hexp hXl hYl hBl hDl
  have HSL0 := Lib.hid hsl
  by_cases hq : R < BL
  · obtain rfl : R = m := by have := HM.out; omega
    have hqi : (R : Int) < (BL : Int) := by omega
    by_cases hXY : X = Y
    · have hd : decide (X = Y) = true := decide_eq_true hXY
      rw [hd] at heq
      rw [if_neg (by simpa using hXY), if_pos hq]
      clear hXY hd
      go_enter Try.func29, Try.ntmps29
      go_wp2_with fail
      refine (HeldW.call (s := HeldW.start w) (gives_same hr)).mono ?_
      rintro e _ ⟨rfl, s1, rfl⟩
      clear hr
      go_wp2_with fail
      refine (HeldW.call (s := s1) (hl s1)).mono ?_
      rintro e _ ⟨rfl, s2, rfl⟩
      clear hl
      go_wp2_with fail
      refine wp_region_class _ _ (by kernel_rfl) (by kernel_rfl) s2.below s2.blocks (fun hne => ?_)
      clear s1 s2
      repeat (go_big_quiet_step ((go_at_call 43; exact HeldW.call (heq _))))
      refine wpQuiet_nil ?_
      rintro _ ⟨s3, rfl⟩
      clear hne hsl hsl2 heq c2
      go_wp2_with fail
      have hsh := read_short g n L dcap da p BL
      have hb3 : Below w.heap.size w (s3.w.alloc (boolO false)) := s3.below.alloc s3.below.size _
      refine (hsh _ (s3.w.alloc (boolO false)) (heap_below HH.out hb3) (by omega) hL (by have := HR.out; omega)).mono ?_
      rintro e w4 ⟨rfl, hb, ho⟩
      have hs3 := s3.below.size
      have cV : w4.cell? ⟨s3.w.heap.size, 0, none⟩ = some (.bool false) := by
        rw [cell_of ((hb.block s3.w.heap.size (by simp) (by omega)).trans (World.alloc_heap_new s3.w _))]; rfl
      clear hsh c0
      go_wp2
      go_ret
      exact ⟨rfl, (But.of_below hb3).trans (hb.mono hb3.size), ho⟩
    · have hd : decide (X = Y) = false := decide_eq_false hXY
      rw [hd] at heq
      rw [if_pos (by simpa using hXY)]
      have hf := fun s : HeldW w [] => wfail_all g dcap da ⟨n, 0, p⟩ s.w L code n (heap_below HH.out s.below)
      clear hXY hd
      go_enter Try.func29, Try.ntmps29
      go_wp2_with fail
      refine (HeldW.call (s := HeldW.start w) (gives_same hr)).mono ?_
      rintro e _ ⟨rfl, s1, rfl⟩
      clear hr
      go_wp2_with fail
      refine (HeldW.call (s := s1) (hl s1)).mono ?_
      rintro e _ ⟨rfl, s2, rfl⟩
      clear hl
      go_wp2_with fail
      refine wp_region_class _ _ (by kernel_rfl) (by kernel_rfl) s2.below s2.blocks (fun hne => ?_)
      clear s1 s2
      repeat (go_big_quiet_step ((go_at_call 43; exact HeldW.call (heq _))))
      refine wpQuiet_nil ?_
      rintro _ ⟨s3, rfl⟩
      clear hne hsl hsl2 heq c2
      go_wp2_with fail
      refine (hf s3).mono ?_
      rintro e w4 ⟨rfl, hb, ho⟩
      clear c0
      go_wp2
      go_ret
      exact ⟨rfl, (But.of_below s3.below).trans (hb.mono s3.below.size), ho⟩
  · obtain rfl : BL = m := by have := HM.out; omega
    have hqi : ¬ (R : Int) < (BL : Int) := by omega
    have HSL := Lib.hid hsl
    by_cases hXY : X = Y
    · have hd : decide (X = Y) = true := decide_eq_true hXY
      rw [hd] at heq
      rw [if_neg (by simpa using hXY), if_neg hq]
      clear hXY hd
      go_enter Try.func29, Try.ntmps29
      go_wp2_with fail
      refine (HeldW.call (s := HeldW.start w) (gives_same hr)).mono ?_
      rintro e _ ⟨rfl, s1, rfl⟩
      clear hr
      go_wp2_with fail
      refine (HeldW.call (s := s1) (hl s1)).mono ?_
      rintro e _ ⟨rfl, s2, rfl⟩
      clear hl
      go_wp2_with fail
      refine wp_region_class _ _ (by kernel_rfl) (by kernel_rfl) s2.below s2.blocks (fun hne => ?_)
      clear s1 s2
      repeat (go_big_quiet_step ((go_at_call 43; exact HeldW.call (heq _))))
      refine wpQuiet_nil ?_
      rintro _ ⟨s3, rfl⟩
      clear hne hsl hsl2 heq c2
      go_wp2_with fail
      obtain ⟨V, hV⟩ : ∃ V, V = s3.w.heap.size := ⟨_, rfl⟩
      obtain ⟨W1, hW1⟩ : ∃ W1, W1 = s3.w.alloc (boolO false) := ⟨_, rfl⟩
      have b1 : Below w.heap.size w W1 := by rw [hW1]; exact s3.below.alloc s3.below.size _
      have hVb : w.heap.size ≤ V := by rw [hV]; exact s3.below.size
      have hVW : W1.heap[V]? = some (boolO false) := by rw [hV, hW1]; exact World.alloc_heap_new s3.w _
      have hVl := (Array.getElem?_eq_some_iff.1 hVW).1
      rw [← hW1, ← hV]
      refine (read_ok 45 V g n L BL dcap da A p W1 (fun w' => But V W1.heap.size W1 w' ∧ w'.heap[V]? = some (boolO true)) (enters_of Try.func45 (by kernel_rfl) rfl) (heap_below HH.out b1) hm2 hL HSL.out (fun s => ?_) (fun w' hq => ?_)).mono ?_
      · refine (expectC_any V _ s.w (heap_below hVW s.below)).mono ?_
        rintro e w' ⟨rfl, hb, ho⟩
        exact ⟨rfl, (But.of_below s.below).trans (hb.mono s.below.size), ho⟩
      · exact (hq.1.block g (by have := b1.size; omega) (by omega)).trans (heap_below HH.out b1)
      · rintro e _ ⟨rfl, w2, ⟨hb, ho⟩, rfl⟩
        have hg2 := (hb.block g (by have := b1.size; omega) (by omega)).trans (heap_below HH.out b1)
        have cV : (w2.setCell ⟨g, 0, none⟩ (.int .i64 (n + BL : Nat))).cell? ⟨V, 0, none⟩ = some (.bool true) := by
          rw [cell_of ((Below.heap_setCell _ _ _ _ (by simp only; omega)).trans ho)]; rfl
        have hfin : Hid (But g w.heap.size w (w2.setCell ⟨g, 0, none⟩ (.int .i64 (n + BL : Nat))) ∧ (w2.setCell ⟨g, 0, none⟩ (.int .i64 (n + BL : Nat))).heap[g]? = some (rdO (n + BL) L da dcap 0 p)) :=
          Lib.hid ⟨((But.of_below b1).trans (But.of_below ((hb.mono b1.size).below hVb))).store 0 _, rd_set0 hg2 (n + BL)⟩
        clear hb ho hg2 hVW hW1 hV c0
        generalize w2.setCell ⟨g, 0, none⟩ (.int .i64 (n + BL : Nat)) = w3 at *
        go_wp2
        go_ret
        exact ⟨rfl, hfin.out⟩
    · have hd : decide (X = Y) = false := decide_eq_false hXY
      rw [hd] at heq
      rw [if_pos (by simpa using hXY)]
      have hf := fun s : HeldW w [] => wfail_all g dcap da ⟨n, 0, p⟩ s.w L code n (heap_below HH.out s.below)
      clear hXY hd
      go_enter Try.func29, Try.ntmps29
      go_wp2_with fail
      refine (HeldW.call (s := HeldW.start w) (gives_same hr)).mono ?_
      rintro e _ ⟨rfl, s1, rfl⟩
      clear hr
      go_wp2_with fail
      refine (HeldW.call (s := s1) (hl s1)).mono ?_
      rintro e _ ⟨rfl, s2, rfl⟩
      clear hl
      go_wp2_with fail
      refine wp_region_class _ _ (by kernel_rfl) (by kernel_rfl) s2.below s2.blocks (fun hne => ?_)
      clear s1 s2
      repeat (go_big_quiet_step ((go_at_call 43; exact HeldW.call (heq _))))
      refine wpQuiet_nil ?_
      rintro _ ⟨s3, rfl⟩
      clear hne hsl hsl2 heq c2
      go_wp2_with fail
      refine (hf s3).mono ?_
      rintro e w4 ⟨rfl, hb, ho⟩
      clear c0
      go_wp2
      go_ret
      exact ⟨rfl, (But.of_below s3.below).trans (hb.mono s3.below.size), ho⟩

theorem wexpect_all (g dcap : Nat) (da : Option Addr) (D B : List Int) (ba : Option Addr) (bcap : Nat) (s : RS) (code : Int) (w : World) (h : w.heap[g]? = some (rsO s D.length da dcap)) (hn : s.n ≤ D.length) (hD : BytesIn w da D dcap) (hB : BytesIn w ba B bcap) (okD : OkB D) (okB : OkB B) :
    Calls Try.prog 29 #[.pointer (some ⟨g, 0, none⟩), .slice ba B.length bcap, .int .i64 code] w (Puts g (rsO (expectR D B code s).2 D.length da dcap) (.bool (expectR D B code s).1) w) := by
  obtain ⟨n, c, p⟩ := s
  by_cases h0 : c = 0
  · subst h0
    exact wexpect_ready g dcap n da D B ba bcap p code w h hn hD hB okD okB
  · have e : expectR D B code ⟨n, c, p⟩ = (false, ⟨n, c, p⟩) := by unfold expectR; rw [if_pos h0]
    rw [e]
    exact gives_puts h (expect_not g n D.length dcap da w _ c p code h h0)
end Go.Proofs.Ytefonhnidkfbgaa

/- The map of package format: made, filled, asked. -/
namespace Go.Proofs.Ytefonhnidkfbgaa
open Go.RowKit
set_option linter.unusedVariables false
set_option linter.unusedSimpArgs false

abbrev fnV (f : FuncId) (g : Nat) : Value := .func (.func f) #[.agg #[.pointer (some ⟨g, 0, none⟩)]] #[]
abbrev kindsO (g : Nat) : Obj := .map #[⟨.int .u64 1, fnV 47 g, 0⟩, ⟨.int .u64 2, fnV 48 g, 1⟩] 2
theorem und_kinds : Try.prog.underlying 91 = some (.map 52 90) := Try.underlying91
theorem check_u64n (w : World) (x : Int) (b : Bool) (n : Nat) : (Instr.checkKey b (n + 1) 52 (.int .u64 x)).run Try.prog w = .ok () w := by
  simp [Instr.checkKey, run_underlying Try.underlying52]
theorem check_u64 (w : World) (x : Int) (b : Bool) : (Instr.checkKey b 10000 52 (.int .u64 x)).run Try.prog w = .ok () w := check_u64n w x b 9999
theorem setObj_new (w : World) (o o' : Obj) : ({ (w.alloc o) with heap := (w.alloc o).heap.setIfInBounds w.heap.size o' } : World) = w.alloc o' := by
  show ({ w with heap := (w.heap.push o).setIfInBounds w.heap.size o' } : World) = { w with heap := w.heap.push o' }
  congr 1
  apply Array.toList_inj.1
  rw [Array.toList_setIfInBounds, Array.toList_push, Array.toList_push]
  simp
theorem update_1 (w : World) (v : Value) : (Instr.mapUpdate 91 (.map (some w.heap.size)) (.int .u64 1) v).run Try.prog (w.alloc (.map #[] 0)) = .ok () (w.alloc (.map #[⟨.int .u64 1, v, 0⟩] 1)) := by
  have h0 : (w.alloc (.map #[] 0)).heap[w.heap.size]? = some (.map #[] 0) := World.alloc_heap_new w _
  simp only [Instr.mapUpdate, Sem.run_bind, run_underlying und_kinds, Result.andThen_ok, getObj, setObj, Sem.run, h0, check_u64, Instr.findKey, run_underlying Try.underlying52, Instr.findNow, Sem.run_pure]
  rw [setObj_new]
  rfl
theorem update_2 (w : World) (u v : Value) : (Instr.mapUpdate 91 (.map (some w.heap.size)) (.int .u64 2) v).run Try.prog (w.alloc (.map #[⟨.int .u64 1, u, 0⟩] 1)) = .ok () (w.alloc (.map #[⟨.int .u64 1, u, 0⟩, ⟨.int .u64 2, v, 1⟩] 2)) := by
  have h0 : (w.alloc (.map #[⟨.int .u64 1, u, 0⟩] 1)).heap[w.heap.size]? = some (.map #[⟨.int .u64 1, u, 0⟩] 1) := World.alloc_heap_new w _
  simp only [Instr.mapUpdate, Sem.run_bind, run_underlying und_kinds, Result.andThen_ok, getObj, setObj, Sem.run, h0, check_u64, Instr.findKey, run_underlying Try.underlying52, Sem.run_pure]
  have e0 : Instr.findNow (.int .u64) (.int .u64 2) (#[⟨.int .u64 1, u, 0⟩] : Array MapEntry).toList 0 = some none := by simp [Instr.findNow, Instr.sameNow]
  simp only [e0, Sem.run, h0, Result.andThen_ok, Sem.run_pure]
  rw [setObj_new]
  rfl
/-- What the map yields at a number. -/
def kindV (g : Nat) (x : Int) : Value := if x = 1 then fnV 47 g else if x = 2 then fnV 48 g else .nilFunc
theorem lookup_kind (w : World) (M g : Nat) (h : w.heap[M]? = some (kindsO g)) (x : Int) : (Instr.lookup 91 (.map (some M)) (.int .u64 x) true).run Try.prog w = .ok (.tuple #[kindV g x, .bool (decide (x = 1 ∨ x = 2))]) w := by
  have hz : (zeroValue 90).run Try.prog w = .ok .nilFunc w := by kernel_rfl
  simp only [Instr.lookup, Sem.run_bind, run_underlying und_kinds, Result.andThen_ok, getObj, Sem.run, h, check_u64, Instr.findKey, run_underlying Try.underlying52]
  unfold kindV
  by_cases h1 : x = 1
  · subst h1
    simp [Instr.findNow, Instr.sameNow]
  · by_cases h2 : x = 2
    · subst h2
      simp [Instr.findNow, Instr.sameNow]
    · have e1 : (x == 1) = false := by simpa using h1
      have e2 : (x == 2) = false := by simpa using h2
      simp [Instr.findNow, Instr.sameNow, e1, e2, h1, h2, hz]
end Go.Proofs.Ytefonhnidkfbgaa
