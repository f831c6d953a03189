import Derived.Test.YtdedfjkenbaebaaDoorE08a13
import Derived.Test.YtdedfjkenbaebaaDoorE08a23
import Derived.Great.BuildSlice
import Derived.Test.YtdedfjkenbaebaaDoorE08a20
import Derived.Test.YtdedfjkenbaebaaDoorE08a17
import Derived.Test.YtdedfjkenbaebaaDoorE08a19
/- A row that grows, whose elements hold slices of bytes that lie apart from it; one further block may be written; some blocks are held. -/
namespace Go.Proofs.YtdedfjkenbaebaaDoor
open Go.RowKit
set_option linter.unusedVariables false

abbrev Sl7 := Option Addr × List Int × Nat
def slV (p : Sl7) : Value := .slice p.1 p.2.1.length p.2.2
theorem bytes_keep {w w' : World} {a : Option Addr} {l : List Int} {cap : Nat} (h : BytesIn w a l cap) (hk : 0 < l.length → ∀ ad, a = some ad → ad.block < w.heap.size → w'.heap[ad.block]? = w.heap[ad.block]?) : BytesIn w' a l cap :=
  ⟨h.len, h.capb, fun hp => by
    obtain ⟨b, o, rfl, hc⟩ := h.cells hp
    refine ⟨b, o, rfl, fun i hi => ?_⟩
    have hb := World.block_lt_of_cell? _ _ (hc i hi)
    rw [← hc i hi]
    unfold World.cell?
    rw [hk hp _ rfl hb], h.nil⟩
theorem own_keep {w w' : World} {base : Nat} {e : TypeId} {size : Nat} {v : Value} {n : Nat} {xs : List Value} (h : w.ownsRow base e size v n xs) (hk : ∀ g, v.ownBlock = some g → g < w.heap.size → w'.heap[g]? = w.heap[g]?) : w'.ownsRow base e size v n xs :=
  ⟨h.1, h.2.imp id fun ⟨g, cap, cur, e1, e2, e3, e4⟩ => ⟨g, cap, cur, e1, e2, (hk g (by rw [e1]; rfl) (Array.getElem?_eq_some_iff.1 e3).1).trans e3, e4⟩⟩

/-- Below B at most the block h has changed. -/
structure ButO (h : Option Nat) (B : Nat) (w w' : World) : Prop where
  os : w'.os = w.os
  tape : w'.tape = w.tape
  output : w'.output = w.output
  size : w.heap.size ≤ w'.heap.size
  block : ∀ k, k < B → h ≠ some k → w'.heap[k]? = w.heap[k]?
theorem ButO.of_below {h : Option Nat} {B : Nat} {w w' : World} (b : Below B w w') : ButO h B w w' := ⟨b.os, b.tape, b.output, b.size, fun k hk _ => b.block k hk⟩
theorem ButO.of_but {h B : Nat} {w w' : World} (b : But h B w w') : ButO (some h) B w w' := ⟨b.os, b.tape, b.output, b.size, fun k hk hn => b.block k hk (fun e => hn (by rw [e]))⟩
theorem ButO.below {B : Nat} {w w' : World} (b : ButO none B w w') : Below B w w' := ⟨b.os, b.tape, b.output, b.size, fun k hk => b.block k hk (fun h => by cases h)⟩
theorem ButO.below' {h B : Nat} {w w' : World} (b : ButO (some h) B w w') (hB : B ≤ h) : Below B w w' := ⟨b.os, b.tape, b.output, b.size, fun k hk => b.block k hk (fun e => by cases e; omega)⟩
theorem ButO.trans {h : Option Nat} {B : Nat} {a b c : World} (p : ButO h B a b) (q : ButO h B b c) : ButO h B a c :=
  ⟨q.os.trans p.os, q.tape.trans p.tape, q.output.trans p.output, Nat.le_trans p.size q.size, fun i hi hn => (q.block i hi hn).trans (p.block i hi hn)⟩
theorem ButO.mono {h : Option Nat} {B B' : Nat} {w w' : World} (p : ButO h B w w') (hB : B' ≤ B) : ButO h B' w w' := ⟨p.os, p.tape, p.output, p.size, fun k hk => p.block k (Nat.lt_of_lt_of_le hk hB)⟩

/-- The row v of n elements of so many cells. -/
structure Grow (w0 : World) (h : Option Nat) (bs : List (Nat × Obj)) (els : List Sl7) (e : TypeId) (size : Nat) (v : Value) (n : Nat) (xs : List Value) where
  w : World
  but : ButO h w0.heap.size w0 w
  own : w.ownsRow w0.heap.size e size v n xs
  hown : ∀ g, h = some g → v.ownBlock ≠ some g ∧ g < w.heap.size
  blocks : ∀ p ∈ bs, w.heap[p.1]? = some p.2 ∧ v.ownBlock ≠ some p.1
  el : ∀ p ∈ els, BytesIn w p.1 p.2.1 p.2.2 ∧ (0 < p.2.1.length → ∀ ad, p.1 = some ad → v.ownBlock ≠ some ad.block ∧ h ≠ some ad.block)

section
variable {w0 : World} {h : Option Nat} {bs : List (Nat × Obj)} {els : List Sl7} {e : TypeId} {size : Nat} {v : Value} {n : Nat} {xs : List Value}
theorem Grow.ownLt (S : Grow w0 h bs els e size v n xs) {g : Nat} (hg : v.ownBlock = some g) : g < S.w.heap.size := (S.own.lt g hg).2
/-- A step that changes at most block h, and makes new ones. -/
theorem Grow.keep (S : Grow w0 h bs els e size v n xs) {w' : World} (hb : ButO h S.w.heap.size S.w w') (bs' : List (Nat × Obj)) (hbs : ∀ p ∈ bs', w'.heap[p.1]? = some p.2 ∧ v.ownBlock ≠ some p.1) : ∃ S' : Grow w0 h bs' els e size v n xs, w' = S'.w := by
  have hk : ∀ g, v.ownBlock = some g → g < S.w.heap.size → w'.heap[g]? = S.w.heap[g]? := fun g hg hl => hb.block g hl (fun hgh => (S.hown g hgh).1 hg)
  exact ⟨⟨w', S.but.trans ⟨hb.os, hb.tape, hb.output, hb.size, fun k hk hn => hb.block k (Nat.lt_of_lt_of_le hk S.but.size) hn⟩, own_keep S.own hk, fun g hg => ⟨(S.hown g hg).1, Nat.lt_of_lt_of_le (S.hown g hg).2 hb.size⟩, hbs, fun p hp => by
    obtain ⟨h1, h2⟩ := S.el p hp
    exact ⟨bytes_keep h1 fun hl ad had hlt => hb.block _ hlt (h2 hl ad had).2, h2⟩⟩, rfl⟩
theorem Grow.held (S : Grow w0 h bs els e size v n xs) {w' : World} (hb : Below S.w.heap.size S.w w') : ∀ p ∈ bs, w'.heap[p.1]? = some p.2 ∧ v.ownBlock ≠ some p.1 := fun p hp => by
  obtain ⟨h1, h2⟩ := S.blocks p hp
  exact ⟨(hb.block _ (Array.getElem?_eq_some_iff.1 h1).1).trans h1, h2⟩
theorem Grow.later (S : Grow w0 h bs els e size v n xs) {w' : World} (hb : Below S.w.heap.size S.w w') : ∃ S' : Grow w0 h bs els e size v n xs, w' = S'.w :=
  S.keep (ButO.of_below hb) bs (S.held hb)
theorem Grow.drewC (S : Grow w0 h bs els e size v n xs) : ∃ S' : Grow w0 h bs els e size v n xs, S.w.drew = S'.w := S.later (Below.refl _ _).drew
theorem Grow.push (S : Grow w0 h bs els e size v n xs) (o : Obj) : ∃ S' : Grow w0 h ((S.w.heap.size, o) :: bs) els e size v n xs, S.w.alloc o = S'.w :=
  S.keep (ButO.of_below ((Below.refl _ S.w).alloc (Nat.le_refl _) o)) _ (List.forall_mem_cons.2 ⟨⟨World.alloc_heap_new S.w o, fun hg => by have := S.ownLt hg; simp only at this; omega⟩, S.held ((Below.refl _ S.w).alloc (Nat.le_refl _) o)⟩)
theorem Grow.more (S : Grow w0 h bs els e size v n xs) (o : Obj) : ∃ (B : Nat) (S' : Grow w0 h ((B, o) :: bs) els e size v n xs), B = S.w.heap.size ∧ S.w.alloc o = S'.w := by
  obtain ⟨S', hS⟩ := S.push o
  exact ⟨_, S', rfl, hS⟩
theorem Grow.sub (S : Grow w0 h bs els e size v n xs) {bs' : List (Nat × Obj)} (hs : ∀ p ∈ bs', p ∈ bs) : ∃ S' : Grow w0 h bs' els e size v n xs, S.w = S'.w :=
  ⟨⟨S.w, S.but, S.own, S.hown, fun p hp => S.blocks p (hs p hp), S.el⟩, rfl⟩
theorem Grow.elsub (S : Grow w0 h bs els e size v n xs) {els' : List Sl7} (hs : ∀ p ∈ els', p ∈ els) : ∃ S' : Grow w0 h bs els' e size v n xs, S.w = S'.w :=
  ⟨⟨S.w, S.but, S.own, S.hown, S.blocks, fun p hp => S.el p (hs p hp)⟩, rfl⟩
/-- The same row, its number and its cells in other words. -/
theorem Grow.conv (S : Grow w0 h bs els e size v n xs) {n' : Nat} {xs' : List Value} (hn : n = n') (hx : xs = xs') : ∃ S' : Grow w0 h bs els e size v n' xs', S.w = S'.w := by subst hn; subst hx; exact ⟨S, rfl⟩
theorem Grow.call {P : Program} {f : FuncId} {args : Array Value} {u : Value} {S : Grow w0 h bs els e size v n xs} (hc : Calls P f args S.w (Gives u S.w)) :
    Calls P f args S.w fun en w'' => en = .returned u ∧ ∃ S' : Grow w0 h bs els e size v n xs, w'' = S'.w :=
  hc.mono fun _ w'' ⟨he, hb⟩ => ⟨he, S.later hb⟩
/-- One more slice of bytes that lies apart. -/
theorem Grow.addEl (S : Grow w0 h bs els e size v n xs) (p : Sl7) (h1 : BytesIn S.w p.1 p.2.1 p.2.2) (h2 : 0 < p.2.1.length → ∀ ad, p.1 = some ad → v.ownBlock ≠ some ad.block ∧ h ≠ some ad.block) : ∃ S' : Grow w0 h bs (p :: els) e size v n xs, S.w = S'.w :=
  ⟨⟨S.w, S.but, S.own, S.hown, S.blocks, List.forall_mem_cons.2 ⟨⟨h1, h2⟩, S.el⟩⟩, rfl⟩
/-- A new slice of its own that a callee has made: one more. -/
theorem own_sl {w : World} {base : Nat} {u : Value} {l : List Int} (ho : w.ownsRow base 5 1 u l.length (l.map (Value.int .u8))) : ∃ A C, u = .slice A l.length C ∧ BytesIn w A l C ∧ (∀ ad, A = some ad → base ≤ ad.block ∧ ad.block < w.heap.size) := by
  have h2 := ho.2
  rcases h2 with ⟨rfl, h0⟩ | ⟨g, cap, cur, rfl, hg, hb, hc, hm, hs, ht⟩
  · exact ⟨none, 0, by rw [h0], ⟨by omega, by omega, fun hp => by omega, fun _ => rfl⟩, fun ad h => by cases h⟩
  · refine ⟨_, cap, rfl, ⟨hc, by unfold maxLen at hm; omega, fun hp => ⟨g, 0, rfl, fun i hi => ?_⟩, fun h => by cases h⟩, fun ad h => by cases h; exact ⟨hg, (Array.getElem?_eq_some_iff.1 hb).1⟩⟩
    have hx : (l.map (Value.int .u8))[i]? = some (.int .u8 (l[i]?.getD 0)) := by rw [List.getElem?_map, List.getElem?_eq_getElem hi]; rfl
    have := ho.cells (g := g) rfl i _ hx
    rwa [Addr.add_mid] at this

/-- An append to the row. -/
theorem Grow.run_append {P : Program} {t : TypeId} (E : ElemS P t e size) (S : Grow w0 h bs els e size v n xs) (ty : TypeId) (ad : Addr) (m c : Nat) (news : List Value) (hl : news.length = m * size)
    (hnews : ∀ j u, news[j]? = some u → S.w.cell? (ad.add j) = some u) (h1 : ∀ u ∈ news, u.oneCell' = true) (h63 : n + m ≤ maxLen) (hbytes : (n + m) * E.bytes ≤ 140737488355328) :
    ∃ v' w', (Builtin.append_ #[t, t] ty #[v, .slice (some ad) m c]).run P S.w = .ok v' w' ∧ ∃ S' : Grow w0 h bs els e size v' (n + m) (xs ++ news), w' = S'.w := by
  obtain ⟨v', w', hrun, ho, hg, hiff⟩ := run_append_own (P := P) S.w w0.heap.size t ty e E.i E.z size E.bytes E.ht E.hi E.hz E.hsize E.hby E.hzs E.hsz v n xs S.own ad m c news hl hnews h1 h63 hbytes S.but.size
  have hblk := append_block E ty S.own ad hl hnews h1 h63 hbytes hrun hiff
  have hne : ∀ k, k < S.w.heap.size → v.ownBlock ≠ some k → v'.ownBlock ≠ some k := fun k hk hv hv' => by
    rcases hblk with hb | hb
    · rw [hb] at hv'; exact hv hv'
    · rw [hb] at hv'; cases hv'; omega
  have hkeep : ∀ k, k < S.w.heap.size → v.ownBlock ≠ some k → w'.heap[k]? = S.w.heap[k]? := fun k hk hv => hg.block k hk (fun he => hv he.symm)
  refine ⟨v', w', hrun, ⟨w', S.but.trans ⟨hg.os, hg.tape, hg.output, hg.size, fun k hk hn => hg.block k (Nat.lt_of_lt_of_le hk S.but.size) (fun he => ?_)⟩, ho, fun g hgh => ⟨hne g (S.hown g hgh).2 (S.hown g hgh).1, Nat.lt_of_lt_of_le (S.hown g hgh).2 hg.size⟩, fun p hp => ?_, fun p hp => ?_⟩, rfl⟩
  · have := (S.own.lt k he.symm).1
    omega
  · obtain ⟨h1, h2⟩ := S.blocks p hp
    have hlt := (Array.getElem?_eq_some_iff.1 h1).1
    exact ⟨(hkeep _ hlt h2).trans h1, hne _ hlt h2⟩
  · obtain ⟨h1, h2⟩ := S.el p hp
    refine ⟨bytes_keep h1 fun hl ad had hlt => hkeep _ hlt (h2 hl ad had).1, fun hl ad had => ?_⟩
    obtain ⟨b, o, he, hc⟩ := h1.cells hl
    have hlt := World.block_lt_of_cell? _ _ (hc 0 hl)
    obtain ⟨h3, h4⟩ := h2 hl ad had
    rw [he] at had
    cases had
    exact ⟨hne _ hlt h3, h4⟩
theorem Grow.append {P : Program} {t : TypeId} (E : ElemS P t e size) {ops : Array Oper} {rest : List Oper} {o : Oper} {a : Act} {Q : Exit → Act → World → Prop} (S : Grow w0 h bs els e size v n xs) (sO srcO : Operand)
    (hgd : o.guard = none) (ho : o.op = .call { callee := .builtin .append, args := #[sO, srcO], argTypes := #[t, t] }) (hs : a.eval sO = v) (ad : Addr) (m c : Nat) (news : List Value) (hl : news.length = m * size) (hx : a.eval srcO = .slice (some ad) m c)
    (hnews : ∀ j u, news[j]? = some u → S.w.cell? (ad.add j) = some u) (h1 : ∀ u ∈ news, u.oneCell' = true) (h63 : n + m ≤ maxLen) (hbytes : (n + m) * E.bytes ≤ 140737488355328)
    (H : ∀ v' (S' : Grow w0 h bs els e size v' (n + m) (xs ++ news)), wpList P ops Q rest (a.put o.dst v') S'.w) : wpList P ops Q (o :: rest) a S.w := by
  obtain ⟨v', w', hrun, S', rfl⟩ := S.run_append E o.type ad m c news hl hnews h1 h63 hbytes
  refine wpList_plain hgd fun K hK => ?_
  unfold Oper.wp
  simp [execOp, ho, resolve, invoke, builtin, hs, hx, hrun, Result.andThen]
  exact hK _ _ (H v' S')
/-- The same of a source that may be nil. -/
theorem Grow.appendO {P : Program} {t : TypeId} (E : ElemS P t e size) {ops : Array Oper} {rest : List Oper} {o : Oper} {a : Act} {Q : Exit → Act → World → Prop} (S : Grow w0 h bs els e size v n xs) (sO srcO : Operand)
    (hgd : o.guard = none) (ho : o.op = .call { callee := .builtin .append, args := #[sO, srcO], argTypes := #[t, t] }) (hs : a.eval sO = v) (sp : Option Addr) (m c : Nat) (news : List Value) (hl : news.length = m * size) (hx : a.eval srcO = .slice sp m c) (hnil : sp = none → m = 0 ∧ c = 0)
    (hnews : ∀ ad, sp = some ad → ∀ j u, news[j]? = some u → S.w.cell? (ad.add j) = some u) (h1 : ∀ u ∈ news, u.oneCell' = true) (h63 : n + m ≤ maxLen) (hbytes : (n + m) * E.bytes ≤ 140737488355328)
    (H : ∀ v' (S' : Grow w0 h bs els e size v' (n + m) (xs ++ news)), wpList P ops Q rest (a.put o.dst v') S'.w) : wpList P ops Q (o :: rest) a S.w := by
  cases sp with
  | some ad => exact S.append E sO srcO hgd ho hs ad m c news hl hx (hnews ad rfl) h1 h63 hbytes H
  | none =>
    obtain ⟨rfl, rfl⟩ := hnil rfl
    obtain rfl := List.eq_nil_of_length_eq_zero (by rw [hl, Nat.zero_mul])
    have hrun := run_append_owned_none (P := P) (w := S.w) w0.heap.size t o.type e E.i size E.ht E.hi v n xs S.own
    refine wpList_plain hgd fun K hK => ?_
    unfold Oper.wp
    simp [execOp, ho, resolve, invoke, builtin, hs, hx, hrun, Result.andThen]
    obtain ⟨S', hS'⟩ := S.conv (n' := n + 0) (xs' := xs ++ []) rfl (by simp)
    rw [hS']
    exact hK _ _ (H v S')
/-- A callee's new slice takes the place of the row. -/
theorem Grow.swap (S : Grow w0 h bs els e size v n xs) {e' : TypeId} {v' : Value} {xs' : List Value} (so : OwnW S.w e' v' xs') : ∃ S' : Grow w0 h bs els e' 1 v' xs'.length xs', so.w = S'.w := by
  have hge : ∀ g, v'.ownBlock = some g → S.w.heap.size ≤ g := fun g hg => (so.own.lt g hg).1
  refine ⟨⟨so.w, S.but.trans (ButO.of_below (so.below.mono S.but.size)), ⟨so.own.1, so.own.2.imp id fun ⟨g, cap, cur, e1, e2, e3⟩ => ⟨g, cap, cur, e1, Nat.le_trans S.but.size e2, e3⟩⟩, fun g hg => ⟨fun hv => ?_, Nat.lt_of_lt_of_le (S.hown g hg).2 so.below.size⟩, fun p hp => ?_, fun p hp => ?_⟩, rfl⟩
  · have := hge g hv
    have := (S.hown g hg).2
    omega
  · obtain ⟨h1, h2⟩ := S.blocks p hp
    have hlt := (Array.getElem?_eq_some_iff.1 h1).1
    exact ⟨(so.below.block _ hlt).trans h1, fun hv => by have := hge _ hv; omega⟩
  · obtain ⟨h1, h2⟩ := S.el p hp
    refine ⟨h1.below so.below, fun hl ad had => ⟨fun hv => ?_, (h2 hl ad had).2⟩⟩
    obtain ⟨b, o, he, hc⟩ := h1.cells hl
    have hlt := World.block_lt_of_cell? _ _ (hc 0 hl)
    rw [he] at had
    cases had
    have := hge _ hv
    simp only at this hlt
    omega
end

/-- The row as bytes. -/
theorem Grow.bytes {w0 : World} {h : Option Nat} {bs : List (Nat × Obj)} {els : List Sl7} {v : Value} {n : Nat} {l : List Int} (S : Grow w0 h bs els 5 1 v n (l.map (Value.int .u8))) : l.length = n ∧ ∃ a cap, v = .slice a n cap ∧ BytesIn S.w a l cap := by
  have hl : l.length = n := by have := S.own.1; simpa using this
  subst hl
  obtain ⟨A, C, h1, h2, -⟩ := own_sl S.own
  exact ⟨rfl, A, C, h1, h2⟩
theorem Grow.ofOwn {w0 : World} {e : TypeId} {v : Value} {xs : List Value} (s : OwnW w0 e v xs) : ∃ S : Grow w0 none [] [] e 1 v xs.length xs, s.w = S.w :=
  ⟨⟨s.w, ButO.of_below s.below, s.own, (fun g hg => by cases hg), (fun p hp => by simp at hp), (fun p hp => by simp at hp)⟩, rfl⟩

section
variable {w0 : World} {h : Nat} {bs : List (Nat × Obj)} {els : List Sl7} {e : TypeId} {size : Nat} {v : Value} {n : Nat} {xs : List Value}
/-- A callee that writes block h. -/
theorem Grow.puts {P : Program} {f : FuncId} {args : Array Value} {u : Value} {o o' : Obj} {S : Grow w0 (some h) ((h, o) :: bs) els e size v n xs} (hne : ∀ p ∈ bs, p.1 ≠ h) (hc : Calls P f args S.w (Puts h o' u S.w)) :
    Calls P f args S.w fun en w'' => en = .returned u ∧ ∃ S' : Grow w0 (some h) ((h, o') :: bs) els e size v n xs, w'' = S'.w :=
  hc.mono fun _ w'' ⟨he, hb, ho⟩ => ⟨he, S.keep (ButO.of_but hb) _ (List.forall_mem_cons.2 ⟨⟨ho, (S.hown h rfl).1⟩, fun p hp => by
    obtain ⟨h1, h2⟩ := S.blocks p (List.mem_cons_of_mem _ hp)
    exact ⟨(hb.block _ (Array.getElem?_eq_some_iff.1 h1).1 (hne p hp)).trans h1, h2⟩⟩)⟩
theorem Grow.makesPuts {P : Program} {f : FuncId} {args : Array Value} {l : List Int} {o o' : Obj} {S : Grow w0 (some h) ((h, o) :: bs) els e size v n xs} (hne : ∀ p ∈ bs, p.1 ≠ h) (hc : Calls P f args S.w (MakesPuts h o' l S.w)) :
    Calls P f args S.w fun en w'' => ∃ A C, en = .returned (.slice A l.length C) ∧ ∃ S' : Grow w0 (some h) ((h, o') :: bs) ((A, l, C) :: els) e size v n xs, w'' = S'.w :=
  hc.mono fun _ w'' ⟨u, he, hb, ho, hrow⟩ => by
    obtain ⟨A, C, rfl, hB, hA⟩ := own_sl hrow
    obtain ⟨S1, h1⟩ := S.keep (ButO.of_but hb) ((h, o') :: bs) (List.forall_mem_cons.2 ⟨⟨ho, (S.hown h rfl).1⟩, fun p hp => by
      obtain ⟨h1, h2⟩ := S.blocks p (List.mem_cons_of_mem _ hp)
      exact ⟨(hb.block _ (Array.getElem?_eq_some_iff.1 h1).1 (hne p hp)).trans h1, h2⟩⟩)
    rw [h1] at hB
    obtain ⟨S2, h2⟩ := S1.addEl (A, l, C) hB (fun _ ad had => by
      have := hA ad had
      refine ⟨fun hg => ?_, fun hg => ?_⟩
      · have := S.ownLt hg
        omega
      · have := (S.hown _ hg).2
        omega)
    exact ⟨A, C, he, S2, h1.trans h2⟩
end

/-- The first elements of a row of slices, in a new block. -/
theorem Grow.init (W : World) (els : List Sl7) (cs : Array Value) (hcs : cs = (els.map slV).toArray) (hel : ∀ p ∈ els, BytesIn W p.1 p.2.1 p.2.2) (n : Nat) (hn : els.length = n) (hl : n ≤ 1000) :
    ∃ S : Grow W none [] els 22 1 (.slice (some ⟨W.heap.size, 0, none⟩) n n) n (els.map slV), W.alloc (.cells cs 22) = S.w := by
  subst hn
  have hb : Below W.heap.size W (W.alloc (.cells cs 22)) := (Below.refl _ W).alloc (Nat.le_refl _) _
  have hsz : cs.size = els.length * 1 := by rw [hcs]; simp
  have htk : cs.toList.take (els.length * 1) = els.map slV := by rw [hcs, Nat.mul_one]; exact List.take_of_length_le (by simp)
  have hown : (W.alloc (.cells cs 22)).ownsRow W.heap.size 22 1 (.slice (some ⟨W.heap.size, 0, none⟩) els.length els.length) els.length (els.map slV) :=
    ⟨by rw [List.length_map, Nat.mul_one], .inr ⟨W.heap.size, els.length, cs, rfl, Nat.le_refl _, World.alloc_heap_new W _, Nat.le_refl _, (by unfold maxLen; omega), hsz, htk⟩⟩
  refine ⟨⟨_, ButO.of_below hb, hown, (fun g hg => by cases hg), (fun p hp => by simp at hp), (fun p hp => ⟨(hel p hp).below hb, fun hl ad had => ⟨fun hg => ?_, (fun hg => by cases hg)⟩⟩)⟩, rfl⟩
  obtain ⟨b, o, he, hc⟩ := (hel p hp).cells hl
  have hlt := World.block_lt_of_cell? _ _ (hc 0 hl)
  rw [he] at had
  cases had
  simp [Value.ownBlock] at hg
  simp only at hlt
  omega
end Go.Proofs.YtdedfjkenbaebaaDoor

/- withLiteral and commands of package patch. -/
namespace Go.Proofs.YtdedfjkenbaebaaDoor
open Go.RowKit
set_option linter.unusedVariables false
set_option linter.unusedSimpArgs false

/-- The commands so far, in a row of the call's own. -/
structure CmdRow (w : World) (b : Option Addr) (x : List Int) (capx : Nat) (L : List Core8) (v : Value) (wr : World) where
  cs : List Cmd
  els : List Sl7
  S : Grow w none [] els 46 5 v cs.length (flat5 cs)
  eq : wr = S.w
  co : cores cs = L
  ok : ∀ c ∈ cs, (I64 c.k ∧ I64 c.t ∧ I64 c.f ∧ I64 c.n) ∧ OkB c.l ∧ (c.a, c.l, c.cap) ∈ els ∧ (0 < c.l.length → ∀ ad, c.a = some ad → w.heap.size ≤ ad.block)
  dat : (b, x, capx) ∈ els
theorem CmdRow.start {w : World} {b : Option Addr} {x : List Int} {capx : Nat} (hx : BytesIn w b x capx) : Nonempty (CmdRow w b x capx [] (.slice none 0 0) w) :=
  ⟨[], [(b, x, capx)], ⟨w, ButO.of_below (Below.refl _ _), World.ownsRow_nil _ w.heap.size 46 5, (fun g hg => by cases hg), (fun p hp => by simp at hp), (fun p hp => by
    obtain rfl := List.mem_singleton.1 hp
    exact ⟨hx, fun hl ad had => ⟨by simp [Value.ownBlock], fun h => by cases h⟩⟩)⟩, rfl, rfl, (fun c hc => by simp at hc), by simp⟩
theorem CmdRow.below {w : World} {b : Option Addr} {x : List Int} {capx : Nat} {L : List Core8} {v : Value} {wr : World} (R : CmdRow w b x capx L v wr) : Below w.heap.size w wr := by rw [R.eq]; exact R.S.but.below
/-- One more command. -/
theorem CmdRow.snoc {w : World} {b : Option Addr} {x : List Int} {capx : Nat} {L : List Core8} {cs : List Cmd} {els : List Sl7} {bs : List (Nat × Obj)} {k t f n : Int} {l : List Int} {A : Option Addr} {C : Nat} {v' : Value}
    (S : Grow w none bs ((A, l, C) :: els) 46 5 v' (cs.length + 1) (flat5 cs ++ Cmd.cells ⟨k, t, f, n, l, A, C⟩)) (co : cores cs = L)
    (ok : ∀ c ∈ cs, (I64 c.k ∧ I64 c.t ∧ I64 c.f ∧ I64 c.n) ∧ OkB c.l ∧ (c.a, c.l, c.cap) ∈ els ∧ (0 < c.l.length → ∀ ad, c.a = some ad → w.heap.size ≤ ad.block)) (dat : (b, x, capx) ∈ els)
    (h64 : I64 k ∧ I64 t ∧ I64 f ∧ I64 n) (ol : OkB l) (hA : 0 < l.length → ∀ ad, A = some ad → w.heap.size ≤ ad.block) : Nonempty (CmdRow w b x capx (L ++ [(k, t, f, n, l)]) v' S.w) := by
  obtain ⟨S8, h8⟩ := S.sub (bs' := []) (fun p hp => by simp at hp)
  obtain ⟨S9, h9⟩ := S8.conv (n' := (cs ++ [(⟨k, t, f, n, l, A, C⟩ : Cmd)]).length) (xs' := flat5 (cs ++ [(⟨k, t, f, n, l, A, C⟩ : Cmd)])) (by simp) (by rw [flat5_append]; simp [flat5])
  refine ⟨⟨_, _, S9, h8.trans h9, ?_, fun d hd => ?_, List.mem_cons_of_mem _ dat⟩⟩
  · unfold cores at co ⊢
    rw [List.map_append, co]
    rfl
  · rcases List.mem_append.1 hd with hd | hd
    · obtain ⟨h1, h2, h3, h4⟩ := ok d hd
      exact ⟨h1, h2, List.mem_cons_of_mem _ h3, h4⟩
    · obtain rfl := List.mem_singleton.1 hd
      exact ⟨h64, ol, List.mem_cons_self, hA⟩
/-- A callee that makes a slice of its own. -/
theorem Grow.madeC {w0 : World} {bs : List (Nat × Obj)} {els : List Sl7} {e : TypeId} {size : Nat} {v : Value} {n : Nat} {xs : List Value} {P : Program} {f : FuncId} {args : Array Value} {mk : Value → Value} {l : List Int} {S : Grow w0 none bs els e size v n xs} (hc : Calls P f args S.w (MakesC mk l S.w)) :
    Calls P f args S.w fun en w'' => ∃ A C, en = .returned (mk (.slice A l.length C)) ∧ (∀ ad, A = some ad → w0.heap.size ≤ ad.block) ∧ ∃ S' : Grow w0 none bs ((A, l, C) :: els) e size v n xs, w'' = S'.w :=
  hc.mono fun _ w'' ⟨u, he, so, hw⟩ => by
    subst hw
    obtain ⟨A, C, rfl, hB, hA⟩ := own_sl (l := l) (by have := so.own; rw [List.length_map] at this; exact this)
    obtain ⟨S1, h1⟩ := S.later so.below
    rw [h1] at hB
    obtain ⟨S2, h2⟩ := S1.addEl (A, l, C) hB (fun _ ad had => ⟨fun hg => by
      have h3 := (hA ad had).1
      have h4 := S.ownLt hg
      omega, fun h => by cases h⟩)
    exact ⟨A, C, he, fun ad had => Nat.le_trans S.but.size (hA ad had).1, S2, h1.trans h2⟩
theorem one_cells (c : Cmd) : ∀ x ∈ Cmd.cells c, x.oneCell' = true := fun x hx => by
  simp only [Cmd.cells, List.mem_cons, List.not_mem_nil, or_false] at hx
  rcases hx with rfl | rfl | rfl | rfl | rfl <;> rfl
theorem lit_i64 {p : Nat} (h : p ≤ 100000) : I64 (p : Int) := by unfold I64; omega

set_option maxRecDepth 100000 in
set_option maxHeartbeats 4000000 in
theorem withLit_any (b : Option Addr) (x : List Int) (capx : Nat) (L : List Core8) (v : Value) (p q : Nat) (w wr : World) (R : CmdRow w b x capx L v wr) (hpq : p ≤ q) (hq : q ≤ x.length) (ox : OkB x) (hL : L.length ≤ 3000) (hX : x.length ≤ 1000) :
    Calls Tryd.prog 49 #[v, .slice b x.length capx, .int .i64 (p : Int), .int .i64 (q : Int)] wr (fun e w' => ∃ v', e = .returned v' ∧ Nonempty (CmdRow w b x capx (L ++ litC x p q) v' w')) := by
  obtain ⟨POST, hP⟩ : ∃ P : Ending → World → Prop, P = (fun e w' => ∃ v', e = .returned v' ∧ Nonempty (CmdRow w b x capx (L ++ litC x p q) v' w')) := ⟨_, rfl⟩
  rw [← hP]
  by_cases he : p = q
  · have HQ : Hid (POST (.returned v) wr) := Lib.hid (by
      rw [hP]
      refine ⟨v, rfl, ?_⟩
      unfold litC
      rw [if_pos he, List.append_nil]
      exact ⟨R⟩)
    subst he
    generalize x.length = XX at *
    clear hP R
    go_enter Tryd.func49, Tryd.ntmps49
    go_wp2
    exact HQ.out
  · have hd : ((p : Int) == (q : Int)) = false := by simp; omega
    have hqx : (q : Int) ≤ (x.length : Int) := by omega
    have hpqi : (p : Int) ≤ (q : Int) := by omega
    have HPOST : Hid (∀ v' W, Nonempty (CmdRow w b x capx (L ++ [((2 : Int), (p : Int), (0 : Int), (0 : Int), (x.drop p).take (q - p))]) v' W) → POST (.returned v') W) := Lib.hid fun v' W h => by
      rw [hP]
      refine ⟨v', rfl, ?_⟩
      unfold litC
      rw [if_neg he]
      exact h
    have HOL : Hid (OkB ((x.drop p).take (q - p))) := Lib.hid fun y hy => ox y (List.mem_of_mem_drop (List.mem_of_mem_take hy))
    have HPI := Lib.hid (And.intro (lit_i64 (p := p) (by omega)) (show I64 0 ∧ I64 2 by unfold I64; omega))
    have hll : ((x.drop p).take (q - p)).length = q - p := by simp; omega
    obtain ⟨cs, els, S, rfl, hco, hok, hdat⟩ := R
    have hcl : cs.length ≤ 3000 := by
      rw [← hco] at hL
      unfold cores at hL
      rw [List.length_map] at hL
      exact hL
    obtain ⟨Q, hsl, hQ⟩ := cut_mid (S.el _ hdat).1 p q hpq hq
    obtain ⟨E, hE⟩ := elem5
    have hEb : (cs.length + 1) * E.bytes ≤ 140737488355328 := by rw [hE]; omega
    have hE63 : cs.length + 1 ≤ maxLen := by unfold maxLen; omega
    have HOK := Lib.hid (And.intro hco (And.intro hok hdat))
    obtain ⟨B4, S4, hB4, hS4⟩ := S.more (.cells #[.slice Q (q - p) (capx - p)] 22 (0, 0))
    have HB4 := Lib.hid (And.intro hB4 hS4)
    have hb4 : Below S.w.heap.size S.w S4.w := by rw [← hS4]; exact (Below.refl _ _).alloc (Nat.le_refl _) _
    have hlit := mliteral_any (p : Int) [(x.drop p).take (q - p)] (some ⟨B4, 0, none⟩) 1 S4.w (parts_one (S4.blocks (B4, .cells #[.slice Q (q - p) (capx - p)] 22 (0, 0)) (by simp)).1 hll (hQ.below hb4)) (by simp; omega)
    rw [show [(x.drop p).take (q - p)].flatten = (x.drop p).take (q - p) by simp] at hlit
    have HLIT := Lib.hid hlit
    generalize (x.drop p).take (q - p) = Y at *
    obtain ⟨XX, hXX⟩ : ∃ XX, XX = x.length := ⟨_, rfl⟩
    rw [← hXX] at hsl hqx ⊢
    clear hP hQ hlit hXX hll hco hok hdat hE hB4 hS4 hb4
    go_enter Tryd.func49, Tryd.ntmps49
    go_wp2_with fail
    rw [← HB4.out.1, HB4.out.2]
    refine (Grow.madeC HLIT.out).mono ?_
    rintro e _ ⟨A, C, rfl, hA, S5, rfl⟩
    have HAA := Lib.hid hA
    clear hA S4 HLIT HB4
    obtain ⟨B6, S6, hB6, hS6⟩ := S5.more (.cells (Cmd.cells ⟨2, p, 0, 0, Y, A, C⟩).toArray 46 (0, 0))
    have HS6 := Lib.hid hS6
    have HB6 := Lib.hid hB6
    have hcell : ∀ (j : Nat) (u : Value), (Cmd.cells ⟨2, p, 0, 0, Y, A, C⟩)[j]? = some u → S6.w.cell? ((⟨B6, 0, none⟩ : Addr).add j) = some u := fun j u hu => by
      rw [Addr.add_mid, Nat.zero_add, cell_of (S6.blocks (B6, .cells (Cmd.cells ⟨2, p, 0, 0, Y, A, C⟩).toArray 46 (0, 0)) (by simp)).1]
      simpa using hu
    clear hS6 hB6
    go_wp2_with (rw [show (#[.int .i64 2, .int .i64 (p : Int), .int .i64 0, .int .i64 0, .slice A Y.length C] : Array Value) = (Cmd.cells ⟨2, p, 0, 0, Y, A, C⟩).toArray from rfl, HS6.out, ← HB6.out]; refine Grow.append E S6 (.tmp 13) (.tmp 21) rfl rfl rfl ⟨B6, 0, none⟩ 1 1 _ rfl rfl hcell (one_cells _) hE63 hEb ?_; intro v' S7)
    have HR := Lib.hid (HPOST.out _ _ (CmdRow.snoc (x := x) (b := b) (capx := capx) S7 HOK.out.1 HOK.out.2.1 HOK.out.2.2 ⟨HPI.out.2.2, HPI.out.1, HPI.out.2.1, HPI.out.2.1⟩ HOL.out (fun _ => HAA.out)))
    clear hcell
    generalize S7.w = W7 at HR ⊢
    go_wp2
    exact HR.out

/-- The commands of Make, in a row of its own. -/
def CmdsMade (b : Option Addr) (x : List Int) (capx : Nat) (L : List Core8) (w : World) (e : Ending) (w' : World) : Prop := ∃ v', e = .returned v' ∧ Nonempty (CmdRow w b x capx L v' w')
/-- What the loop of commands keeps: the bytes from B to P are literal. -/
structure CmdLoop8 (w : World) (b : Option Addr) (l x : List Int) (capx : Nat) (block : Int) (P B : Nat) (v : Value) (wr : World) : Prop where
  hBP : B ≤ P
  hP : P ≤ x.length
  row : ∃ L k, L.length ≤ 2 * B ∧ x.length - P < k ∧ L ++ greedy (findN l x block) x k P B = makeC l x block ∧ Nonempty (CmdRow w b x capx L v wr)
theorem CmdRow.later {w : World} {b : Option Addr} {x : List Int} {capx : Nat} {L : List Core8} {v : Value} {wr w' : World} (R : CmdRow w b x capx L v wr) (hb : Below wr.heap.size wr w') : Nonempty (CmdRow w b x capx L v w') := by
  obtain ⟨cs, els, S, rfl, hco, hok, hdat⟩ := R
  obtain ⟨S', h'⟩ := S.later hb
  exact ⟨⟨cs, els, S', h', hco, hok, hdat⟩⟩
theorem litC_few (x : List Int) (p q : Nat) : (litC x p q).length ≤ 1 := by
  unfold litC
  split <;> simp

set_option maxRecDepth 100000 in
set_option maxHeartbeats 4000000 in
theorem commands8_any (g1 g2 g3 : Nat) (a b c : Option Addr) (l x : List Int) (cap capx : Nat) (block : Int) (w : World) (hF : FindBox w g1 g2 g3 a b c l x cap capx block) (ol : OkB l) (ox : OkB x) (hL : l.length ≤ 1000) (hX : x.length ≤ 1000) :
    Calls Tryd.prog 31 #[.slice b x.length capx, .func (.func 52) #[] (findB g1 g2 g3)] w (CmdsMade b x capx (makeC l x block) w) := by
  have HFN : Hid (∀ (W : World) (p : Nat), Below w.heap.size w W → p ≤ x.length → Calls Tryd.prog 52 #[.int .i64 (p : Int), .pointer (some ⟨g1, 0, none⟩), .pointer (some ⟨g2, 0, none⟩), .pointer (some ⟨g3, 0, none⟩)] W (Gives (.tuple #[.int .i64 (qn8 (findN l x block p)).1, .int .i64 (qn8 (findN l x block p)).2]) W)) := Lib.hid fun W p hb hp => finderC_any g1 g2 g3 a b c l x cap capx block p W (hF.below hb) ol ox hp hL hX
  have HWL : Hid (∀ (L : List Core8) (v : Value) (p q : Nat) (wr : World), CmdRow w b x capx L v wr → p ≤ q → q ≤ x.length → L.length ≤ 3000 → Calls Tryd.prog 49 #[v, .slice b x.length capx, .int .i64 (p : Int), .int .i64 (q : Int)] wr (fun e w' => ∃ v', e = .returned v' ∧ Nonempty (CmdRow w b x capx (L ++ litC x p q) v' w'))) := Lib.hid fun L v p q wr R h1 h2 h3 => withLit_any b x capx L v p q w wr R h1 h2 ox h3 hX
  obtain ⟨POST, hP⟩ : ∃ P, P = CmdsMade b x capx (makeC l x block) w := ⟨_, rfl⟩
  have HEND : Hid (∀ v' W, Nonempty (CmdRow w b x capx (makeC l x block) v' W) → POST (.returned v') W) := Lib.hid fun v' W h => by
    rw [hP]; exact ⟨v', rfl, h⟩
  have HS : Hid (CmdLoop8 w b l x capx block 0 0 (.slice none 0 0) w) := Lib.hid ⟨Nat.le_refl _, Nat.zero_le _, [], x.length + 1, Nat.zero_le _, by omega, rfl, CmdRow.start hF.hx⟩
  have HLX := Lib.hid (And.intro hL hX)
  rw [← hP]
  obtain ⟨XX, hXX⟩ : ∃ XX, XX = x.length := ⟨_, rfl⟩
  have HXX := Lib.hid hXX
  have hX1 : XX ≤ 1000 := by omega
  rw [← hXX] at HFN HWL ⊢
  clear hP hF hXX hL hX
  go_enter Tryd.func31, Tryd.ntmps31
  go_wp2
  go_loopw [5, 6, 7] (fun v bg pp wr => ∃ B P : Nat, bg = .int .i64 (B : Int) ∧ pp = .int .i64 (P : Int) ∧ Hid (CmdLoop8 w b l x capx block P B v wr)) (fun _ _ pp _ => XX - (intOf pp).toNat)
  case atStart => exact ⟨0, 0, rfl, rfl, HS⟩
  case round =>
    clear HS
    obtain ⟨B, P, rfl, rfl, HI⟩ := hrel
    have hbp : B ≤ P := HI.out.hBP
    have hpx : P ≤ XX := by have := HI.out.hP; have := HXX.out; omega
    by_cases hlt : P < XX
    · cases hf : findN l x block P with
      | none =>
        have HN : Hid (∀ v wr, CmdLoop8 w b l x capx block P B v wr → ∀ w', Below wr.heap.size wr w' → CmdLoop8 w b l x capx block (P + 1) B v w') := Lib.hid fun v wr I w' hb => by
          obtain ⟨h1, h2, L, k, h3, h4, h5, ⟨R⟩⟩ := I
          have hlx : P < x.length := by have := HXX.out; omega
          obtain ⟨k, rfl⟩ : ∃ j, k = j + 1 := ⟨k - 1, by omega⟩
          rw [greedy_lit hlx hf] at h5
          exact ⟨by omega, by omega, L, k, h3, by omega, h5, R.later hb⟩
        have hc := HFN.out wr P (by obtain ⟨L, k, h3, h4, h5, ⟨R⟩⟩ := HI.out.row; exact R.below) hpx
        rw [hf] at hc
        have e0 : (qn8 none).1 = 0 ∧ (qn8 none).2 = 0 := ⟨rfl, rfl⟩
        rw [e0.1, e0.2] at hc
        clear hf e0
        go_wp2_with fail
        refine hc.mono ?_
        rintro e W2 ⟨rfl, hb2⟩
        have HI2 := Lib.hid (HN.out _ _ HI.out W2 hb2)
        clear HN HI hb2 hc
        go_wp2
        go_roundw
        case rel => exact ⟨B, P + 1, rfl, by go_num, HI2⟩
        case measure => simp [intOf]; omega
      | some qn =>
        obtain ⟨q, n⟩ := qn
        obtain ⟨hn1, hn2, hn3, hn4⟩ := findN_some hf
        have hc := HFN.out wr P (by obtain ⟨L, k, h3, h4, h5, ⟨R⟩⟩ := HI.out.row; exact R.below) hpx
        rw [hf] at hc
        have e0 : (qn8 (some (q, n))).1 = q ∧ (qn8 (some (q, n))).2 = n := ⟨rfl, rfl⟩
        rw [e0.1, e0.2] at hc
        obtain ⟨L, k, h3, h4, h5, ⟨R⟩⟩ := HI.out.row
        have hlx : P < x.length := by have := HXX.out; omega
        obtain ⟨k, rfl⟩ : ∃ j, k = j + 1 := ⟨k - 1, by omega⟩
        rw [greedy_copy hlx hf] at h5
        have HG : Hid (L ++ litC x B P ++ [((1 : Int), (P : Int), (q : Int), (n : Int), [])] ++ greedy (findN l x block) x k (P + n) (P + n) = makeC l x block) := Lib.hid (by rw [← h5]; simp)
        have hlen2 : (L ++ litC x B P).length ≤ 2 * B + 1 := by
          have := litC_few x B P
          rw [List.length_append]
          omega
        have HW : Hid (∀ W, Below wr.heap.size wr W → Calls Tryd.prog 49 #[u5, .slice b XX capx, .int .i64 (B : Int), .int .i64 (P : Int)] W (fun e w' => ∃ v', e = .returned v' ∧ Nonempty (CmdRow w b x capx (L ++ litC x B P) v' w'))) := Lib.hid fun W hb => by
          obtain ⟨R2⟩ := R.later hb
          exact HWL.out L _ B P W R2 hbp (by omega) (by have := HXX.out; omega)
        have HK := Lib.hid (show x.length - (P + n) < k by omega)
        have HPN := Lib.hid (show P + n ≤ x.length by omega)
        have hnb : n ≤ 1000 := by have := HXX.out; omega
        have hqb : q ≤ 1000 := by have := HLX.out.1; omega
        have hPn : P + n ≤ XX := by have := HXX.out; omega
        have hnz : ((n : Int) == 0) = false := by simp; omega
        clear hf e0 h5 h4 hn2 hn3 hn4 R hlx HI
        go_wp2_with fail
        refine hc.mono ?_
        rintro e W2 ⟨rfl, hb2⟩
        have hcw := HW.out W2 hb2
        clear hc hb2 HW
        go_wp2_with fail
        refine hcw.mono ?_
        rintro e W3 ⟨v3, rfl, ⟨R3⟩⟩
        obtain ⟨cs, els, S, rfl, hco, hok, hdat⟩ := R3
        have hcl : cs.length ≤ 2 * B + 1 := by
          rw [← hco] at hlen2
          unfold cores at hlen2
          rw [List.length_map] at hlen2
          exact hlen2
        have HOK := Lib.hid (And.intro hco (And.intro hok hdat))
        obtain ⟨E, hE⟩ := elem5
        have hEb : (cs.length + 1) * E.bytes ≤ 140737488355328 := by rw [hE]; omega
        have hE63 : cs.length + 1 ≤ maxLen := by unfold maxLen; omega
        have HLEN := Lib.hid hlen2
        clear hco hok hdat hE hcl hcw hlen2
        go_wp2_with fail
        refine (Grow.call (S := S) (mcopy_any P q n S.w)).mono ?_
        rintro e _ ⟨rfl, S4, rfl⟩
        clear S
        obtain ⟨S5, h5⟩ := S4.addEl (none, [], 0) ⟨Nat.le_refl _, by simp, fun h => by simp at h, fun _ => rfl⟩ (fun hp => by simp at hp)
        obtain ⟨B6, S6, hB6, hS6⟩ := S5.more (.cells (Cmd.cells ⟨1, P, q, n, [], none, 0⟩).toArray 46 (0, 0))
        have HS6 : Hid (S4.w.alloc (.cells (Cmd.cells ⟨1, P, q, n, [], none, 0⟩).toArray 46 (0, 0)) = S6.w) := Lib.hid (by rw [h5]; exact hS6)
        have HB6 := Lib.hid (show B6 = S4.w.heap.size by rw [h5]; exact hB6)
        have hcell : ∀ (j : Nat) (u : Value), (Cmd.cells ⟨1, P, q, n, [], none, 0⟩)[j]? = some u → S6.w.cell? ((⟨B6, 0, none⟩ : Addr).add j) = some u := fun j u hu => by
          rw [Addr.add_mid, Nat.zero_add, cell_of (S6.blocks (B6, .cells (Cmd.cells ⟨1, P, q, n, [], none, 0⟩).toArray 46 (0, 0)) (by simp)).1]
          simpa using hu
        clear hS6 hB6 h5 S5
        go_wp2_with (rw [show (#[.int .i64 1, .int .i64 (P : Int), .int .i64 (q : Int), .int .i64 (n : Int), .slice none 0 0] : Array Value) = (Cmd.cells ⟨1, P, q, n, [], none, 0⟩).toArray from rfl, HS6.out, ← HB6.out]; refine Grow.append E S6 (.tmp 28) (.tmp 33) rfl rfl rfl ⟨B6, 0, none⟩ 1 1 _ rfl rfl hcell (one_cells _) hE63 hEb ?_; intro v' S7)
        have HR := Lib.hid (CmdRow.snoc (x := x) (b := b) (capx := capx) S7 HOK.out.1 HOK.out.2.1 HOK.out.2.2 ⟨by unfold I64; omega, lit_i64 (by omega), lit_i64 (by omega), lit_i64 (by omega)⟩ okB_nil (fun hp => by simp at hp))
        have HI2 : Hid (CmdLoop8 w b l x capx block (P + n) (P + n) v' S7.w) := Lib.hid ⟨Nat.le_refl _, HPN.out, _, k, by
          have := HLEN.out
          rw [List.length_append, List.length_singleton]
          omega, HK.out, HG.out, HR.out⟩
        clear hcell HR
        generalize S7.w = W7 at HI2 ⊢
        go_wp2
        go_roundw
        case rel => exact ⟨P + n, P + n, by go_num, by go_num, HI2⟩
        case measure => simp [intOf]; omega
    · obtain rfl : P = XX := by omega
      obtain ⟨L, k, h3, h4, h5, ⟨R⟩⟩ := HI.out.row
      rw [greedy_end (by have := HXX.out; omega), ← HXX.out] at h5
      have hcw := HWL.out L _ B P wr R hbp (by have := HXX.out; omega) (by omega)
      rw [h5] at hcw
      clear R h3 h4 h5 HI
      go_wp2_with fail
      refine hcw.mono ?_
      rintro e W2 ⟨v2, rfl, hR⟩
      have HQ := Lib.hid (HEND.out _ _ hR)
      clear hR hcw
      go_wp2
      exact HQ.out
end Go.Proofs.YtdedfjkenbaebaaDoor
