import Derived.Deep.Onto
import Derived.Test.YtdedfjkenbaebaaDoorE08a5
import Derived.Test.YtdedfjkenbaebaaDoorE08a12
import Derived.Great.BuildSlice
import Derived.Deep.WholeRow
import Derived.Test.YtdedfjkenbaebaaDoorE08a1
import Derived.RangeFuncBox
import Derived.RangeFuncLeaves
import Derived.RangeFuncNested
import Derived.Shelf.Abstract
import Derived.WalkKit
import Derived.OwnWalk
import Derived.OwnWalkIn
import Derived.TacticsInMore
import Derived.LoopNIn
import Derived.LoopIn
import Derived.Maps.AppendAt
import Derived.Test.YtdedfjkenbaebaaDoorE08a11
import Derived.Test.YtdedfjkenbaebaaDoorE08a10
import Derived.Test.YtdedfjkenbaebaaDoorE08a9
import Derived.Test.YtdedfjkenbaebaaDoorE08a6
/- Several rows that the call itself made, apart from each other: some of them grow, some are written. -/
namespace Go.Proofs.YtdedfjkenbaebaaDoor
open Go.RowKit
set_option linter.unusedVariables false

/-- What an element type must be, of so many cells and of however many bytes. -/
structure ElemS (P : Program) (t e : TypeId) (size : Nat) where
  i : TypeInfo
  z : Value
  bytes : Nat
  ht : P.underlying t = some (.slice e)
  hi : P.info? e = some i
  hz : i.zero = some z
  hsize : i.size = size
  hby : i.bytes = bytes
  hzs : z.cells.size = size
  hsz : 0 < size
abbrev ElemW (P : Program) (t e : TypeId) := ElemS P t e 1
theorem elemW8 : ∃ E : ElemW Tryd.prog 22 5, E.bytes = 1 := by
  obtain ⟨E, h⟩ := elem8
  exact ⟨⟨E.i, E.z, E.bytes, E.ht, E.hi, E.hz, E.hsize, E.hby, E.hzs, by omega⟩, h⟩
theorem elemWP : ∃ E : ElemW Tryd.prog 91 22, E.bytes = 24 := by
  have h : (Tryd.prog.info? 22).map (fun i => (i.zero, i.size, i.bytes)) = some (some (.slice none 0 0), 1, 24) := by kernel_rfl
  obtain ⟨i, hi, he⟩ := Option.map_eq_some_iff.1 h
  simp only [Prod.mk.injEq] at he
  exact ⟨⟨i, .slice none 0 0, 24, Tryd.underlying91, hi, he.1, he.2.1, he.2.2, rfl, by omega⟩, rfl⟩

theorem perm_third {α : Type} (a b c : α) (l : List α) : (c :: a :: b :: l).Perm (a :: b :: c :: l) := (List.Perm.swap _ _ _).trans ((List.Perm.swap _ _ _).cons _)
theorem perm_snoc {α : Type} (a b e x : α) (l : List α) : (b :: a :: x :: (l ++ [e])).Perm (a :: b :: e :: x :: l) :=
  ((((List.perm_append_singleton e l).cons x).cons a).cons b).trans ((List.Perm.swap _ _ _).trans (((List.Perm.swap _ _ _).cons _).cons _))

/-- A row that the call itself made: n elements of so many cells, behind the slice v. -/
structure Row where
  e : TypeId
  size : Nat
  v : Value
  n : Nat
  xs : List Value
def Row.At (r : Row) (base : Nat) (w : World) : Prop := w.ownsRow base r.e r.size r.v r.n r.xs
def ApartV (u v : Value) : Prop := u.ownBlock = none ∨ u.ownBlock ≠ v.ownBlock
theorem ApartV.symm {u v : Value} (h : ApartV u v) : ApartV v u := by
  unfold ApartV at *
  rcases h with h | h
  · rw [h]
    cases v.ownBlock with
    | none => exact .inl rfl
    | some g => exact .inr (fun h => by cases h)
  · exact .inr (Ne.symm h)

/-- A world that holds such rows; below w0's heap nothing has changed. -/
structure Piles (w0 : World) (rs : List Row) where
  w : World
  below : Below w0.heap.size w0 w
  rows : ∀ r ∈ rs, r.At w0.heap.size w
  apart : (rs.map (·.v)).Pairwise ApartV

theorem own_later {w w' : World} {base : Nat} {e : TypeId} {size : Nat} {v : Value} {n : Nat} {xs : List Value} (h : w.ownsRow base e size v n xs) (hb : Below w.heap.size w w') : w'.ownsRow base e size v n xs :=
  ⟨h.1, h.2.imp id fun ⟨g, cap, cur, e1, e2, e3, e4⟩ => ⟨g, cap, cur, e1, e2, (hb.block _ (Array.getElem?_eq_some_iff.1 e3).1).trans e3, e4⟩⟩

section
variable {w0 : World} {rs : List Row}
theorem Piles.later (S : Piles w0 rs) {w' : World} (h : Below S.w.heap.size S.w w') : ∃ S' : Piles w0 rs, w' = S'.w :=
  ⟨⟨w', S.below.trans (h.mono S.below.size), fun r hr => own_later (S.rows r hr) h, S.apart⟩, rfl⟩
theorem Piles.drewC (S : Piles w0 rs) : ∃ S' : Piles w0 rs, S.w.drew = S'.w := S.later (Below.refl _ _).drew
theorem Piles.call {P : Program} {f : FuncId} {args : Array Value} {u : Value} {S : Piles w0 rs} (h : Calls P f args S.w (Gives u S.w)) :
    Calls P f args S.w fun en w'' => en = .returned u ∧ ∃ S' : Piles w0 rs, w'' = S'.w :=
  h.mono fun _ w'' ⟨he, hb⟩ => ⟨he, S.later hb⟩
theorem Piles.perm (S : Piles w0 rs) {rs' : List Row} (h : rs'.Perm rs) : ∃ S' : Piles w0 rs', S.w = S'.w :=
  ⟨⟨S.w, S.below, fun r hr => S.rows r (h.mem_iff.1 hr), (List.Perm.pairwise_iff (fun {a b} h => ApartV.symm h) (h.map _)).2 S.apart⟩, rfl⟩
theorem Piles.sub (S : Piles w0 rs) {rs' : List Row} (h : rs'.Sublist rs) : ∃ S' : Piles w0 rs', S.w = S'.w :=
  ⟨⟨S.w, S.below, fun r hr => S.rows r (h.subset hr), S.apart.sublist (h.map _)⟩, rfl⟩
/-- One more row, in a new block. -/
theorem Piles.fresh (S : Piles w0 rs) {w' : World} (h : Below S.w.heap.size S.w w') (r : Row) (hr : r.At w0.heap.size w') (hb : ∀ g, r.v.ownBlock = some g → S.w.heap.size ≤ g) : ∃ S' : Piles w0 (r :: rs), w' = S'.w := by
  refine ⟨⟨w', S.below.trans (h.mono S.below.size), fun q hq => ?_, ?_⟩, rfl⟩
  · rcases List.mem_cons.1 hq with rfl | hq
    · exact hr
    · exact own_later (S.rows q hq) h
  · rw [List.map_cons, List.pairwise_cons]
    refine ⟨fun u hu => ?_, S.apart⟩
    obtain ⟨q, hq, rfl⟩ := List.mem_map.1 hu
    unfold ApartV
    cases hg : r.v.ownBlock with
    | none => exact .inl rfl
    | some g =>
      right
      intro he
      have h1 := hb g hg
      have h2 := ((S.rows q hq).lt g he.symm).2
      omega
/-- One more row, apart from the others. -/
theorem Piles.add (S : Piles w0 rs) (r : Row) (hr : r.At w0.heap.size S.w) (hap : ∀ q ∈ rs, ApartV r.v q.v) : ∃ S' : Piles w0 (r :: rs), S.w = S'.w :=
  ⟨⟨S.w, S.below, fun q hq => by rcases List.mem_cons.1 hq with rfl | hq; exact hr; exact S.rows q hq, by
    rw [List.map_cons, List.pairwise_cons]
    exact ⟨fun u hu => by obtain ⟨q, hq, rfl⟩ := List.mem_map.1 hu; exact hap q hq, S.apart⟩⟩, rfl⟩
theorem Piles.ltAll (S : Piles w0 rs) : ∀ q ∈ rs, ∀ g, q.v.ownBlock = some g → g < S.w.heap.size := fun q hq g hg => ((S.rows q hq).lt g hg).2
theorem box_at {w : World} {base b : Nat} {t : TypeId} {cs : Array Value} {size : Nat} (hb : base ≤ b) (h : w.heap[b]? = some (.cells cs t (0, 0))) (hs : cs.size = size) : Row.At ⟨t, size, .slice (some ⟨b, 0, none⟩) 1 1, 1, cs.toList⟩ base w := by
  refine ⟨by simp [hs], .inr ⟨b, 1, cs, rfl, hb, h, Nat.le_refl _, by unfold maxLen; omega, by simp [hs], ?_⟩⟩
  rw [List.take_of_length_le]
  simp [hs]
/-- A block of its own, as a row. -/
theorem Piles.box (S : Piles w0 rs) (t : TypeId) (cs : Array Value) (size : Nat) (hs : cs.size = size) : ∃ S' : Piles w0 (⟨t, size, .slice (some ⟨S.w.heap.size, 0, none⟩) 1 1, 1, cs.toList⟩ :: rs), S.w.alloc (.cells cs t) = S'.w := by
  refine S.fresh ((Below.refl _ _).alloc (Nat.le_refl _) _) _ ?_ (fun g hg => by simp [Value.ownBlock] at hg; omega)
  refine ⟨by simp [hs], .inr ⟨S.w.heap.size, 1, cs, rfl, S.below.size, World.alloc_heap_new _ _, Nat.le_refl _, by unfold maxLen; omega, by simp [hs], ?_⟩⟩
  rw [List.take_of_length_le]
  simp [hs]
theorem Piles.empty (S : Piles w0 rs) (e : TypeId) (size : Nat) : ∃ S' : Piles w0 (⟨e, size, .slice (some ⟨S.w.heap.size, 0, none⟩) 0 0, 0, []⟩ :: rs), S.w.alloc (.cells #[] e) = S'.w := by
  refine S.fresh ((Below.refl _ _).alloc (Nat.le_refl _) _) _ ?_ (fun g hg => by simp [Value.ownBlock] at hg; omega)
  exact World.ownsRow_made (base := w0.heap.size) (e := e) (size := size) S.w #[] 0 S.below.size (by unfold maxLen; omega) (by simp)
end

/-- The first box; a row that is nil. -/
theorem Piles.start (w : World) (t : TypeId) (cs : Array Value) (size : Nat) (hs : cs.size = size) : ∃ S : Piles w [⟨t, size, .slice (some ⟨w.heap.size, 0, none⟩) 1 1, 1, cs.toList⟩], w.alloc (.cells cs t) = S.w :=
  (⟨w, Below.refl _ _, by simp, List.Pairwise.nil⟩ : Piles w []).box t cs size hs
theorem Piles.nilRow {w0 : World} {rs : List Row} (S : Piles w0 rs) (e : TypeId) : ∃ S' : Piles w0 (⟨e, 1, .slice none 0 0, 0, []⟩ :: rs), S.w = S'.w :=
  S.fresh (Below.refl _ _) _ (World.ownsRow_nil S.w w0.heap.size e 1) (fun g hg => by cases hg)

/-- The same rows, in other words and in another order. -/
theorem Piles.conv {w0 : World} {rs : List Row} (S : Piles w0 rs) (rs1 : List Row) (h1 : rs = rs1) {rs2 : List Row} (h2 : rs2.Perm rs1) : ∃ S' : Piles w0 rs2, S.w = S'.w := by subst h1; exact S.perm h2

/-- Where an append puts its row. -/
theorem append_block {P : Program} {t e : TypeId} {size : Nat} (E : ElemS P t e size) {w w' : World} {base n m c : Nat} {v v' : Value} {xs news : List Value} (ty : TypeId) (hown : w.ownsRow base e size v n xs) (ad : Addr) (hl : news.length = m * size) (hnews : ∀ j u, news[j]? = some u → w.cell? (ad.add j) = some u) (h1 : ∀ u ∈ news, u.oneCell' = true)
    (h63 : n + m ≤ maxLen) (hbytes : (n + m) * E.bytes ≤ 140737488355328) (hrun : (Builtin.append_ #[t, t] ty #[v, .slice (some ad) m c]).run P w = .ok v' w') (hiff : v' = .slice none 0 0 ↔ v = .slice none 0 0 ∧ m = 0) : v'.ownBlock = v.ownBlock ∨ v'.ownBlock = some w.heap.size := by
  have hsmall : n + m ≤ 9223372036854775807 := by simp only [maxLen] at h63; omega
  have hl1 : news.length = m * E.i.size := by rw [E.hsize, hl]
  rcases hown.2 with ⟨rfl, rfl⟩ | ⟨g, cap, cur, rfl, hbg, hg, hnc, hcm, hcs, htake⟩
  · by_cases hm : m = 0
    · rw [hiff.2 ⟨rfl, hm⟩]
      exact .inl rfl
    · have hr := run_append_nil (P := P) w t ty e E.i E.z E.ht E.hi E.hz ad m c news hl1 hnews (by omega) (by omega) (by rw [E.hby]; simp only [Nat.zero_add] at hbytes; omega)
      rw [hr] at hrun
      injection hrun with h2 h3
      subst h2
      exact .inr rfl
  · by_cases hroom : n + m ≤ cap
    · have hr := run_append_room (P := P) w t ty e E.i E.ht E.hi g n cap cur hg ad m c news hl1 hnews h1 hroom (by rw [hl1, hcs, E.hsize, ← Nat.add_mul]; exact Nat.mul_le_mul_right _ hroom)
      rw [hr] at hrun
      injection hrun with h2 h3
      subst h2
      exact .inl rfl
    · have hr := run_append_grow (P := P) w t ty e E.i E.z E.ht E.hi E.hz ⟨g, 0, none⟩ n cap xs (by rw [E.hsize]; exact hown.1) (hown.cells (g := g) rfl) ad m c news hl1 hnews (by omega) (by omega) (growslice_fits (by omega) (by rw [E.hby]; exact hbytes))
      rw [hr] at hrun
      injection hrun with h2 h3
      subst h2
      exact .inr rfl

/-- An append to the first row. -/
theorem run_append_pilesS {P : Program} {t e : TypeId} {size : Nat} (E : ElemS P t e size) {w0 : World} {rs : List Row} {v : Value} {n : Nat} {xs : List Value} (S : Piles w0 (⟨e, size, v, n, xs⟩ :: rs)) (ty : TypeId) (sp : Option Addr) (m c : Nat) (news : List Value) (hl : news.length = m * size)
    (hnil : sp = none → m = 0 ∧ c = 0) (hnews : ∀ ad, sp = some ad → ∀ j u, news[j]? = some u → S.w.cell? (ad.add j) = some u) (h1 : ∀ u ∈ news, u.oneCell' = true) (h63 : n + m ≤ maxLen) (hbytes : (n + m) * E.bytes ≤ 140737488355328) :
    ∃ v' w', (Builtin.append_ #[t, t] ty #[v, .slice sp m c]).run P S.w = .ok v' w' ∧ ∃ S' : Piles w0 (⟨e, size, v', n + m, xs ++ news⟩ :: rs), w' = S'.w := by
  have hown : S.w.ownsRow w0.heap.size e size v n xs := S.rows _ List.mem_cons_self
  have hap := S.apart
  rw [List.map_cons, List.pairwise_cons] at hap
  cases sp with
  | none =>
    obtain ⟨rfl, rfl⟩ := hnil rfl
    obtain rfl := List.eq_nil_of_length_eq_zero (by rw [hl, Nat.zero_mul])
    refine ⟨v, S.w, run_append_owned_none (P := P) (w := S.w) w0.heap.size t ty e E.i size E.ht E.hi v n xs hown, ⟨S.w, S.below, fun r hr => ?_, ?_⟩, rfl⟩
    · rcases List.mem_cons.1 hr with rfl | hr
      · simpa [Row.At] using hown
      · exact S.rows r (List.mem_cons_of_mem _ hr)
    · exact S.apart
  | some ad =>
    obtain ⟨v', w', hrun, ho, hg, hiff⟩ := run_append_own (P := P) S.w w0.heap.size t ty e E.i E.z size E.bytes E.ht E.hi E.hz E.hsize E.hby E.hzs E.hsz v n xs hown ad m c news hl (hnews ad rfl) h1 h63 hbytes S.below.size
    have hblk := append_block E ty hown ad hl (hnews ad rfl) h1 h63 hbytes hrun hiff
    refine ⟨v', w', hrun, ⟨w', S.below.grown hg S.below.size (fun k hk => (hown.lt k hk).1), fun r hr => ?_, ?_⟩, rfl⟩
    · rcases List.mem_cons.1 hr with rfl | hr
      · exact ho
      · refine World.ownsRow.kept (S.rows r (List.mem_cons_of_mem _ hr)) hg ?_
        rcases hap.1 r.v (List.mem_map.2 ⟨r, hr, rfl⟩) with h | h
        · cases hr2 : r.v.ownBlock with
          | none => exact .inl rfl
          | some g => right; rw [h]; intro h3; cases h3
        · right; exact Ne.symm h
    · rw [List.map_cons, List.pairwise_cons]
      refine ⟨fun u hu => ?_, hap.2⟩
      rcases hblk with h | h
      · have := hap.1 u hu
        unfold ApartV at this ⊢
        rwa [h]
      · obtain ⟨q, hq, rfl⟩ := List.mem_map.1 hu
        unfold ApartV
        right
        rw [h]
        intro he
        have := ((S.rows q (List.mem_cons_of_mem _ hq)).lt _ he.symm).2
        omega

/-- The same for the walk. -/
theorem wpList_append_pilesS {P : Program} {t e : TypeId} {size : Nat} (E : ElemS P t e size) {w0 : World} {rs : List Row} {v : Value} {n : Nat} {xs : List Value} {ops : Array Oper} {rest : List Oper} {o : Oper} {a : Act} {Q : Exit → Act → World → Prop} (S : Piles w0 (⟨e, size, v, n, xs⟩ :: rs)) (sO xO : Operand)
    (hgd : o.guard = none) (ho : o.op = .call { callee := .builtin .append, args := #[sO, xO], argTypes := #[t, t] }) (hs : a.eval sO = v) (sp : Option Addr) (m c : Nat) (news : List Value) (hl : news.length = m * size) (hx : a.eval xO = .slice sp m c)
    (hnil : sp = none → m = 0 ∧ c = 0) (hnews : ∀ ad, sp = some ad → ∀ j u, news[j]? = some u → S.w.cell? (ad.add j) = some u) (h1 : ∀ u ∈ news, u.oneCell' = true) (h63 : n + m ≤ maxLen) (hbytes : (n + m) * E.bytes ≤ 140737488355328)
    (H : ∀ v' (S' : Piles w0 (⟨e, size, v', n + m, xs ++ news⟩ :: rs)), wpList P ops Q rest (a.put o.dst v') S'.w) : wpList P ops Q (o :: rest) a S.w := by
  obtain ⟨v', w', hrun, S', rfl⟩ := run_append_pilesS E S o.type sp m c news hl hnil hnews h1 h63 hbytes
  refine wpList_plain hgd fun K hK => ?_
  unfold Oper.wp
  simp [execOp, ho, resolve, invoke, builtin, hs, hx, hrun, Result.andThen]
  exact hK _ _ (H v' S')

/-- The same, of elements of one cell. -/
theorem wpList_append_piles {P : Program} {t e : TypeId} (E : ElemW P t e) {w0 : World} {rs : List Row} {v : Value} {n : Nat} {xs : List Value} {ops : Array Oper} {rest : List Oper} {o : Oper} {a : Act} {Q : Exit → Act → World → Prop} (S : Piles w0 (⟨e, 1, v, n, xs⟩ :: rs)) (sO xO : Operand)
    (hgd : o.guard = none) (ho : o.op = .call { callee := .builtin .append, args := #[sO, xO], argTypes := #[t, t] }) (hs : a.eval sO = v) (sp : Option Addr) (m c : Nat) (news : List Value) (hl : news.length = m) (hx : a.eval xO = .slice sp m c)
    (hnil : sp = none → m = 0 ∧ c = 0) (hnews : ∀ ad, sp = some ad → ∀ j u, news[j]? = some u → S.w.cell? (ad.add j) = some u) (h1 : ∀ u ∈ news, u.oneCell' = true) (h63 : n + m ≤ maxLen) (hbytes : (n + m) * E.bytes ≤ 140737488355328)
    (H : ∀ v' (S' : Piles w0 (⟨e, 1, v', n + m, xs ++ news⟩ :: rs)), wpList P ops Q rest (a.put o.dst v') S'.w) : wpList P ops Q (o :: rest) a S.w :=
  wpList_append_pilesS E S sO xO hgd ho hs sp m c news (by omega) hx hnil hnews h1 h63 hbytes H

/-- One element, in a new literal, is appended to the second row. -/
theorem wpList_append_one {P : Program} {t e : TypeId} (E : ElemW P t e) {w0 : World} {r1 : Row} {rs : List Row} {v : Value} {n : Nat} {xs : List Value} {ops : Array Oper} {rest : List Oper} {o : Oper} {a : Act} {Q : Exit → Act → World → Prop} (S : Piles w0 (r1 :: ⟨e, 1, v, n, xs⟩ :: rs)) (x : Value) (hx1 : x.oneCell' = true) (sO xO : Operand)
    (hgd : o.guard = none) (ho : o.op = .call { callee := .builtin .append, args := #[sO, xO], argTypes := #[t, t] }) (hs : a.eval sO = v) (hx : a.eval xO = .slice (some ⟨S.w.heap.size, 0, none⟩) 1 1) (h63 : n + 1 ≤ maxLen) (hbytes : (n + 1) * E.bytes ≤ 140737488355328)
    (H : ∀ v' (S' : Piles w0 (⟨e, 1, v', n + 1, xs ++ [x]⟩ :: r1 :: rs)), wpList P ops Q rest (a.put o.dst v') S'.w) : wpList P ops Q (o :: rest) a (S.w.alloc (.cells #[x] e)) := by
  obtain ⟨S3, hS3⟩ := S.later (w' := S.w.alloc (.cells #[x] e)) ((Below.refl _ _).alloc (Nat.le_refl _) _)
  obtain ⟨S4, hS4⟩ := S3.perm (rs' := ⟨e, 1, v, n, xs⟩ :: r1 :: rs) (List.Perm.swap _ _ _)
  have hc : S4.w.cell? ⟨S.w.heap.size, 0, none⟩ = some x := by rw [← hS4, ← hS3, cell_of (World.alloc_heap_new S.w _)]; rfl
  rw [hS3, hS4]
  refine wpList_append_piles E S4 sO xO hgd ho hs (some ⟨S.w.heap.size, 0, none⟩) 1 1 [x] rfl hx (fun h => by cases h) (fun ad had j u hu => ?_) (fun u hu => by simp at hu; subst hu; exact hx1) h63 hbytes H
  obtain rfl := Option.some.inj had
  cases j with
  | zero => simp at hu; subst hu; rw [Addr.add_mid]; exact hc
  | succ j => simp at hu

/-- A cell of a row is written. -/
theorem Piles.storeAt {w0 : World} {rs : List Row} (S : Piles w0 rs) (p : Nat) (r : Row) (hp : rs[p]? = some r) (g n c : Nat) (hv : r.v = .slice (some ⟨g, 0, none⟩) n c) (hn : r.n = n) (i : Nat) (hi : i < n * r.size) (u : Value) :
    ∃ S' : Piles w0 (rs.set p { r with xs := r.xs.set i u }), S.w.setCell ⟨g, i, none⟩ u = S'.w := by
  have hr := S.rows r (List.mem_of_getElem? hp)
  have hpl := (List.getElem?_eq_some_iff.1 hp).1
  have hgb : w0.heap.size ≤ g := (hr.lt g (by rw [hv]; rfl)).1
  refine ⟨⟨_, S.below.setCell (p := ⟨g, i, none⟩) hgb _, fun q hq => ?_, ?_⟩, rfl⟩
  · obtain ⟨j, hj⟩ := List.getElem?_of_mem hq
    rw [List.getElem?_set] at hj
    by_cases hpj : p = j
    · rw [if_pos hpj, if_pos (by omega)] at hj
      obtain rfl := Option.some.inj hj
      unfold Row.At at hr ⊢
      simp only
      rw [hv, hn] at hr ⊢
      rcases hr.2 with ⟨h0, _⟩ | ⟨g', cap, cur, e1, e2, e3, e4, e5, e6, e7⟩
      · cases h0
      · simp only [Value.slice.injEq, Option.some.injEq, Addr.mk.injEq, and_true, true_and] at e1
        obtain ⟨rfl, rfl⟩ := e1
        refine ⟨by rw [List.length_set]; exact hr.1, .inr ⟨g, c, cur.setIfInBounds i u, rfl, e2, heap_setCell_same _ _ _ _ _ _ e3, e4, e5, by simpa using e6, ?_⟩⟩
        rw [Array.toList_setIfInBounds, List.take_set, e7]
    · rw [if_neg hpj] at hj
      have hqm := List.mem_of_getElem? hj
      have hq0 := S.rows q hqm
      have hapt : ApartV r.v q.v := by
        have hh := List.pairwise_iff_getElem.1 S.apart
        have hjl := (List.getElem?_eq_some_iff.1 hj).1
        have e1 : (rs.map (·.v))[p]'(by simpa using hpl) = r.v := by
          rw [List.getElem_map]
          rw [(List.getElem?_eq_some_iff.1 hp).2]
        have e2 : (rs.map (·.v))[j]'(by simpa using hjl) = q.v := by
          rw [List.getElem_map]
          rw [(List.getElem?_eq_some_iff.1 hj).2]
        rcases Nat.lt_or_ge p j with h | h
        · have := hh p j (by simpa using hpl) (by simpa using hjl) h
          rwa [e1, e2] at this
        · have := hh j p (by simpa using hjl) (by simpa using hpl) (by omega)
          rw [e1, e2] at this
          exact this.symm
      refine ⟨hq0.1, hq0.2.imp id fun ⟨g', cap, cur, e1, e2, e3, e4⟩ => ⟨g', cap, cur, e1, e2, (Below.heap_setCell _ _ _ _ ?_).trans e3, e4⟩⟩
      simp only
      intro hgg
      rcases hapt with h | h
      · rw [hv] at h; cases h
      · rw [hv, e1] at h
        simp [Value.ownBlock] at h
        omega
  · rw [List.map_set]
    have : (rs.map (·.v)).set p r.v = rs.map (·.v) := by
      have h : (rs.map (·.v))[p]? = some r.v := by rw [List.getElem?_map, hp]; rfl
      apply List.ext_getElem?
      intro j
      rw [List.getElem?_set]
      by_cases hpj : p = j
      · subst hpj; rw [if_pos rfl, if_pos (by simpa using hpl), h]
      · rw [if_neg hpj]
    rw [this]
    exact S.apart

/-- A row of bytes can be read. -/
theorem Piles.bytes {w0 : World} {rs : List Row} (S : Piles w0 rs) {v : Value} {n : Nat} {l : List Int} (h : (⟨5, 1, v, n, l.map (Value.int .u8)⟩ : Row) ∈ rs) : l.length = n ∧ ∃ (a : Option Addr) (cap : Nat), v = .slice a n cap ∧ BytesIn S.w a l cap := by
  have hr := S.rows _ h
  have hl : l.length = n := by have := hr.1; simp at this; omega
  subst hl
  obtain ⟨a, cap, h1, h2⟩ := (⟨S.w, S.below, by rw [List.length_map]; exact hr⟩ : OwnW w0 5 v (l.map (Value.int .u8))).bytes
  exact ⟨rfl, a, cap, h1, h2⟩
/-- What a row looks like. -/
theorem Piles.view {w0 : World} {rs : List Row} (S : Piles w0 rs) {r : Row} (h : r ∈ rs) : ∃ (a : Option Addr) (cap : Nat), r.v = .slice a r.n cap ∧ (a = none → cap = 0) ∧ r.n ≤ cap ∧ cap ≤ 9223372036854775807 ∧ (0 < r.n → ∃ g, a = some ⟨g, 0, none⟩ ∧ ∀ (j : Nat) (u : Value), r.xs[j]? = some u → S.w.cell? ⟨g, j, none⟩ = some u ∧ S.w.frozen? ⟨g, j, none⟩ = false) := by
  have hr := S.rows _ h
  rcases hr.2 with ⟨h1, h0⟩ | ⟨g, cap, cur, hv, hg, hb, hc, hm, hs, ht⟩
  · exact ⟨none, 0, by rw [h1, h0], fun _ => rfl, by omega, by omega, fun h => by omega⟩
  · refine ⟨_, cap, hv, (fun h => by cases h), hc, by unfold maxLen at hm; omega, fun _ => ⟨g, rfl, fun j u hu => ⟨?_, free_of hb j⟩⟩⟩
    have := World.ownsRow.cells hr (g := g) (by rw [hv]; rfl) j u hu
    rwa [Addr.add_mid, Nat.zero_add] at this

/-- The cells of a box. -/
theorem Piles.boxCells {w0 : World} {rs : List Row} (S : Piles w0 rs) {t : TypeId} {size b : Nat} {xs : List Value} (h : (⟨t, size, .slice (some ⟨b, 0, none⟩) 1 1, 1, xs⟩ : Row) ∈ rs) : b < S.w.heap.size ∧ ∀ (j : Nat) (u : Value), xs[j]? = some u → S.w.cell? ⟨b, j, none⟩ = some u := by
  have hr := S.rows _ h
  refine ⟨(hr.lt b rfl).2, fun j u hu => ?_⟩
  have := World.ownsRow.cells hr (g := b) rfl j u hu
  rwa [Addr.add_mid, Nat.zero_add] at this

/-- The five cells of a box are written. -/
theorem Piles.put5 {w0 : World} {rs : List Row} (S : Piles w0 rs) (p : Nat) {t : TypeId} {b : Nat} {z0 z1 z2 z3 z4 : Value} (hp : rs[p]? = some ⟨t, 5, .slice (some ⟨b, 0, none⟩) 1 1, 1, [z0, z1, z2, z3, z4]⟩) (u0 u1 u2 u3 u4 : Value) :
    ∃ S' : Piles w0 (rs.set p ⟨t, 5, .slice (some ⟨b, 0, none⟩) 1 1, 1, [u0, u1, u2, u3, u4]⟩), ((((S.w.setCell ⟨b, 0, none⟩ u0).setCell ⟨b, 1, none⟩ u1).setCell ⟨b, 2, none⟩ u2).setCell ⟨b, 3, none⟩ u3).setCell ⟨b, 4, none⟩ u4 = S'.w := by
  have hpl := (List.getElem?_eq_some_iff.1 hp).1
  have hs : ∀ (r : Row) (l : List Row), l.length = rs.length → (l.set p r)[p]? = some r := fun r l hl => by rw [List.getElem?_set]; simp [hl, hpl]
  obtain ⟨S1, h1⟩ := S.storeAt p _ hp b 1 1 rfl rfl 0 (by simp) u0
  obtain ⟨S2, h2⟩ := S1.storeAt p _ (hs _ _ rfl) b 1 1 rfl rfl 1 (by simp) u1
  obtain ⟨S3, h3⟩ := S2.storeAt p _ (hs _ _ (by simp)) b 1 1 rfl rfl 2 (by simp) u2
  obtain ⟨S4, h4⟩ := S3.storeAt p _ (hs _ _ (by simp)) b 1 1 rfl rfl 3 (by simp) u3
  obtain ⟨S5, h5⟩ := S4.storeAt p _ (hs _ _ (by simp)) b 1 1 rfl rfl 4 (by simp) u4
  obtain ⟨S6, h6⟩ := S5.conv (rs.set p ⟨t, 5, .slice (some ⟨b, 0, none⟩) 1 1, 1, [u0, u1, u2, u3, u4]⟩) (by simp) (List.Perm.refl _)
  exact ⟨S6, by rw [h1, h2, h3, h4, h5, h6]⟩
end Go.Proofs.YtdedfjkenbaebaaDoor

/- A wanted operation of a region in the text's order, and the whole-row load and the build as such. -/
namespace Go.Proofs.YtdedfjkenbaebaaDoor
open Go.RowKit
set_option linter.unusedVariables false

/-- A wanted operation of a region in the text's order, and the whole-array load and the build as such. -/
theorem wpList_wanted {P : Program} {ops : Array Oper} {rest : List Oper} {o : Oper} {a : Act} {w : World} {Q : Exit → Act → World → Prop} (hw : Region.wanted o (yielded ops a.tmps) = true)
    (h : ∀ K : Act → World → Prop, (∀ a w, wpList P ops Q rest a w → K a w) → o.wp P a w K Q) : wpList P ops Q (o :: rest) a w :=
  wpList_step fun K hK => by rw [if_pos hw]; exact h K hK
theorem wpList_load_rowG {P : Program} {ops : Array Oper} {rest : List Oper} {o : Oper} {a : Act} {w : World} {Q : Exit → Act → World → Prop} (hgd : Region.wanted o (yielded ops a.tmps) = true) (ty : TypeId) (x : Operand) (ho : o.op = .load ty x)
    (d0 : Option Tmp) (hdst : o.dst = d0) (g : Nat) (hx : a.eval x = .pointer (some ⟨g, 0, none⟩)) (t : TypeId) (cs : Array Value) (fr : Nat × Nat) (d : TypeDesc) (hg : w.heap[g]? = some (.cells cs t fr))
    (hu : P.underlying ty = some d) (hd : (match d with | .struct _ | .array _ _ => true | _ => false) = true) (hi : (P.info? ty).map (·.size) = some cs.size)
    (h : wpList P ops Q rest (a.put d0 (.agg cs)) w) : wpList P ops Q (o :: rest) a w := by
  subst hdst
  exact wpList_wanted hgd fun _ hK => wp_load_row ty x ho g hx t cs fr d hg hu hd hi (hK _ _ h)
theorem wpList_buildToG {P : Program} {ops : Array Oper} {rest : List Oper} {o : Oper} {a : Act} {w : World} {Q : Exit → Act → World → Prop} (hg : Region.wanted o (yielded ops a.tmps) = true) (t : TypeId) (parts : Array (Nat × Operand)) (ho : o.op = .build t parts)
    (d : Option Tmp) (hd : o.dst = d) (cells : Array Value) (hf : P.built t (parts.map fun (i, x) => (i, a.eval x)).toList = some cells)
    (h : wpList P ops Q rest (a.put d (.agg cells)) w) : wpList P ops Q (o :: rest) a w := by
  subst hd
  exact wpList_wanted hg fun _ hK => wp_build t parts ho (by rw [hf]; rfl) (by rw [hf]; exact hK _ _ h)

end Go.Proofs.YtdedfjkenbaebaaDoor

/- The targets of the first commands in ascending order: the iterator. -/
namespace Go.Proofs.YtdedfjkenbaebaaDoor
open Go.RowKit Go.Shelf Go.Proofs.YtdedfjkenbaebaaDoor.Plain01
attribute [local go_sem] Oper.semAt_some
set_option linter.unusedVariables false
set_option linter.unusedSimpArgs false

/-- The targets of the commands whose indices are listed and less than m. -/
def tgtAt (cs : List Cmd) (z : Int) : Int × Int := ((cs[z.toNat]?).map Cmd.tgt).getD (0, 0)
def selL (cs : List Cmd) (m : Int) (zs : List Int) : List (Int × Int) := (zs.filter fun z => decide (z < m)).map (tgtAt cs)
theorem tgtAt_at {cs : List Cmd} {i : Nat} {c : Cmd} (h : cs[i]? = some c) : tgtAt cs i = c.tgt := by simp [tgtAt, h]
theorem selL_snoc_in {cs : List Cmd} {m z : Int} {zs : List Int} (h : z < m) : selL cs m (zs ++ [z]) = selL cs m zs ++ [tgtAt cs z] := by simp [selL, h]
theorem selL_snoc_out {cs : List Cmd} {m z : Int} {zs : List Int} (h : ¬ z < m) : selL cs m (zs ++ [z]) = selL cs m zs := by simp [selL, h]
theorem selL_length {cs : List Cmd} {m : Int} {zs : List Int} : (selL cs m zs).length ≤ zs.length := by unfold selL; rw [List.length_map]; exact List.length_filter_le _ _
theorem selL_prefix {cs : List Cmd} {m : Int} {zs zs' : List Int} (h : zs' <+: zs) : selL cs m zs' <+: selL cs m zs := by
  obtain ⟨r, rfl⟩ := h
  exact ⟨selL cs m r, by simp [selL]⟩

/-- What the iterator has caught. -/
structure Caught (w : World) (Bs Bn Bl g : Nat) (idx : Array Int) (cs : List Cmd) (ca : Option Addr) (ccap : Nat) (m : Int) : Prop where
  s : w.heap[Bs]? = some (.cells #[.slice (some ⟨g, 0, none⟩) idx.size idx.size] 66 (0, 0))
  n : w.heap[Bn]? = some (.cells #[.int .i64 m] 3 (0, 0))
  l : w.heap[Bl]? = some (boxL ca cs.length ccap)
  g : w.heap[g]? = some (rowI idx)
  c : CmdsIn w ca cs ccap
  small : idx.size ≤ 1000000
  idx : ∀ i, i < idx.size → ∃ j : Nat, j < cs.length ∧ idx[i]! = (j : Int)
  ok : ∀ c ∈ cs, okE c.tgt = true ∧ (c.k = 1 ∨ c.k = 2)
theorem Caught.below {w w' : World} {Bs Bn Bl g : Nat} {idx : Array Int} {cs : List Cmd} {ca : Option Addr} {ccap : Nat} {m : Int} (h : Caught w Bs Bn Bl g idx cs ca ccap m) (hb : Below w.heap.size w w') : Caught w' Bs Bn Bl g idx cs ca ccap m :=
  ⟨heap_below h.s hb, heap_below h.n hb, heap_below h.l hb, heap_below h.g hb, h.c.below hb, h.small, h.idx, h.ok⟩
theorem below_grown0 {w w' : World} (h : Below w.heap.size w w') : w.grownBy w' none := ⟨h.os, h.tape, h.output, h.size, fun k hk _ => h.block k hk⟩

/-- An extent that is valid. -/
abbrev OExt : Type := { x : Int × Int // okE x = true }

theorem take_snoc {α : Type} [Inhabited α] {d : Array α} {k : Nat} (hk : k < d.size) : d.toList.take (k + 1) = d.toList.take k ++ [d[k]!] := by
  rw [List.take_add_one, getElem!_pos d k hk]
  congr 1
  simp [hk]

set_option maxRecDepth 100000 in
set_option maxHeartbeats 2000000 in
theorem targetsC_stops (n : Nat) (hn : 1 ≤ n) (Bs Bn Bl g : Nat) (idx : Array Int) (cs : List Cmd) (ca : Option Addr) (ccap : Nat) (m : Int) (w : World) (hC : Caught w Bs Bn Bl g idx cs ca ccap m) :
    SeqStopsK Fence.wide n Tryd.prog 107 #[.pointer (some ⟨Bs, 0, none⟩), .pointer (some ⟨Bn, 0, none⟩), .pointer (some ⟨Bl, 0, none⟩)] (fun x : OExt => #[extV x.1]) (Below w.heap.size)
      (fun ys => ys.map (·.1) = selL cs m idx.toList) (fun pre => pre.map (·.1) <+: selL cs m idx.toList) idx.size w := fun l J Jx W hW hJ _ hY h0 => by
  have HC := Lib.hid hC
  obtain ⟨N, hN⟩ : ∃ N, N = idx.size := ⟨_, rfl⟩
  obtain ⟨L, hL⟩ : ∃ L, L = cs.length := ⟨_, rfl⟩
  have cS : ∀ X : World, Below w.heap.size w X → X.cell? ⟨Bs, 0, none⟩ = some (.slice (some ⟨g, 0, none⟩) N N) := fun X h => by rw [cell_of (HC.out.below h).s, hN]; rfl
  have cN : ∀ X : World, Below w.heap.size w X → X.cell? ⟨Bn, 0, none⟩ = some (.int .i64 m) := fun X h => by rw [cell_of (HC.out.below h).n]; rfl
  have cL : ∀ X : World, Below w.heap.size w X → X.cell? ⟨Bl, 0, none⟩ = some (.slice ca L ccap) := fun X h => by rw [cell_of (HC.out.below h).l, hL]; rfl
  have cI : ∀ X : World, Below w.heap.size w X → ∀ k, k < N → X.cell? ⟨g, k, none⟩ = some (.int .i64 idx[k]!) := fun X h k hk => by
    rw [cell_of (HC.out.below h).g]
    simp [getElem!_pos idx k (by omega), show k < idx.size by omega]
  have hsm : N ≤ 1000000 := by rw [hN]; exact hC.small
  have hLb : L ≤ 9223372036854775807 := by rw [hL]; exact Nat.le_trans hC.c.len hC.c.capb
  have HN := Lib.hid hN
  have HL := Lib.hid hL
  have s0 := cS W hW
  rw [← hN] at hY
  clear hC hN hL
  refine callsIn_of_wp Tryd.func107 rfl trivial ?_ rfl
  simp only [Tryd.ntmps107, List.size_toArray, List.length_cons, List.length_nil, Nat.reduceAdd, Nat.reduceSub, Array.replicate_succ, Array.replicate_zero, List.push_toArray, List.append_toArray, List.nil_append, List.cons_append]
  gi_wp2
  gi_loopw [9] (fun i wr => ∃ k : Nat, k ≤ N ∧ i = .int .i64 k ∧ ∃ pre : List OExt, Hid (pre.map (·.1) = selL cs m (idx.toList.take k)) ∧ J pre wr ∧ Below w.heap.size w wr) (fun i _ => N - (intOf i).toNat)
  case atStart => exact ⟨0, Nat.zero_le _, rfl, [], Lib.hid rfl, h0, hW⟩
  case round =>
    clear s0
    obtain ⟨k, hk, rfl, pre, hp, hJs, hB⟩ := hrel
    by_cases hlt : k < N
    · obtain ⟨j, hj, hz⟩ := HC.out.idx k (by rw [← HN.out]; exact hlt)
      obtain ⟨c, hc⟩ : ∃ c, cs[j]? = some c := ⟨_, List.getElem?_eq_getElem hj⟩
      have i0 := cI wr hB k hlt
      have s1 := cN wr hB
      have s2 := cL wr hB
      rw [hz] at i0
      have hsn := take_snoc (d := idx) (k := k) (by rw [← HN.out]; exact hlt)
      rw [hz] at hsn
      have hlen : pre.length < N := by
        have h1 : pre.length = (pre.map (·.1)).length := by simp
        rw [hp.out] at h1
        have h2 := selL_length (cs := cs) (m := m) (zs := idx.toList.take k)
        have h3 : (idx.toList.take k).length ≤ k := by simp; omega
        omega
      by_cases hjm : (j : Int) < m
      · obtain ⟨b, o, rfl, x0, x1, x2, x3, x4⟩ := (HC.out.c.below hB).at hc
        have hok := HC.out.ok c (List.mem_of_getElem? hc)
        have hT := mtarget_any c.k c.t c.f c.n hok.2 c.a c.l.length c.cap wr
        have hnext : Hid ((pre ++ [(⟨c.tgt, hok.1⟩ : OExt)]).map (·.1) = selL cs m (idx.toList.take (k + 1))) := Lib.hid (by
          rw [hsn, selL_snoc_in hjm, tgtAt_at hc, List.map_append, hp.out]; rfl)
        have hjL : j < L := by rw [HL.out]; exact hj
        have hjm2 : decide ((j : Int) < m) = true := by simpa using hjm
        have HJ := Lib.hid hJ
        have HY := Lib.hid (fun W1 (h1 : J pre W1) => hY pre ⟨c.tgt, hok.1⟩ W1 h1 hlen)
        clear hsn hz hp hY hJ cI hk hc
        gi_wp2_with (refine ⟨trivial, ?_⟩; gi_at_call 47; refine (callsIn_wide.2 hT).mono ?_; rintro e w' ⟨rfl, hb⟩; obtain ⟨fn, tmps, assign, body, hy, hR⟩ := HY.out w' (HJ.out _ _ _ none hJs (below_grown0 hb) (by intro r e; cases e)); dsimp only [extV, Cmd.tgt, Cmd.w] at hy)
        refine hR.mono ?_
        rintro e W3 (⟨rfl, hJ3, hk3⟩ | ⟨rfl, hJx3⟩)
        · gi_wp2
          go_roundw
          case rel => exact ⟨k + 1, by omega, by simp, _, hnext, hJ3, (hB.trans (hb.mono hB.size)).trans hk3⟩
          case measure => simp [intOf]; omega
        · gi_wp2
          refine bodyPost_ret (results_none rfl _ _ _) rfl ?_
          exact ⟨⟨_, rfl⟩, .inr ⟨_, by rw [hnext.out]; exact selL_prefix (List.take_prefix _ _), hJx3⟩⟩
      · have hnext : Hid (pre.map (·.1) = selL cs m (idx.toList.take (k + 1))) := Lib.hid (by rw [hsn, selL_snoc_out hjm, hp.out])
        clear hsn hz hp hY hJ cI hk hc s2
        gi_wp2
        refine ⟨trivial, ?_⟩
        gi_wp2
        refine ⟨fun _ h => (by cases h), ?_⟩
        gi_wp2
        go_roundw
        case rel => exact ⟨k + 1, by omega, by simp, _, hnext, hJs, hB⟩
        case measure => simp [intOf]; omega
    · obtain rfl : k = N := by omega
      gi_wp2
      go_end0
      exact ⟨⟨_, rfl⟩, .inl ⟨pre, by rw [hp.out, HN.out, List.take_of_length_le (by simp)], hJs⟩⟩

/-- Two of the extents, which ascend, have bytes in common; where the walk stands still. -/
def ovL : Int → List (Int × Int) → Bool
  | _, [] => false
  | e, x :: r => if x.1 < e then true else ovL (x.1 + x.2) r
def endL (pre : List (Int × Int)) : Int := (pre.getLast?.map fun x => x.1 + x.2).getD 0
theorem endL_snoc (pre : List (Int × Int)) (x : Int × Int) : endL (pre ++ [x]) = x.1 + x.2 := by simp [endL]
theorem ovL_append : ∀ (pre : List (Int × Int)) (e : Int) (r : List (Int × Int)), ovL e (pre ++ r) = (ovL e pre || ovL ((pre.getLast?.map fun x => x.1 + x.2).getD e) r) := by
  intro pre
  induction pre with
  | nil => intro e r; simp [ovL]
  | cons a pre ih =>
    intro e r
    rw [List.cons_append, ovL, ovL]
    by_cases h : a.1 < e
    · simp [h]
    · rw [if_neg h, if_neg h, ih]
      cases pre with
      | nil => simp
      | cons b pre => simp [List.getLast?_cons_cons, List.getLast?_cons]
theorem ovL_snoc (pre : List (Int × Int)) (x : Int × Int) : ovL 0 (pre ++ [x]) = (ovL 0 pre || decide (x.1 < endL pre)) := by
  rw [ovL_append]
  unfold endL
  congr 1
theorem ovL_prefix {pre l : List (Int × Int)} (h : pre <+: l) (ho : ovL 0 pre = true) : ovL 0 l = true := by
  obtain ⟨r, rfl⟩ := h
  rw [ovL_append, ho]
  rfl

set_option maxRecDepth 100000 in
set_option maxHeartbeats 4000000 in
theorem overlap_at (Bs Bn Bl g : Nat) (idx : Array Int) (cs : List Cmd) (ca : Option Addr) (ccap : Nat) (m : Int) (w : World) (hC : Caught w Bs Bn Bl g idx cs ca ccap m) :
    Calls Tryd.prog 87 #[.func (.func 107) #[] #[.pointer (some ⟨Bs, 0, none⟩), .pointer (some ⟨Bn, 0, none⟩), .pointer (some ⟨Bl, 0, none⟩)]] w (Gives (.bool (ovL 0 (selL cs m idx.toList))) w) := by
  refine (callsIn_wide (n := 6)).1 ?_
  have hB0 : Below w.heap.size w ((w.alloc (.cells #[.bool false] 4)).alloc (.cells #[.int .i64 0] 3)) := ((Below.refl _ w).alloc (Nat.le_refl _) _).alloc (by simp) _
  obtain ⟨W0, hW0⟩ : ∃ W0, (w.alloc (.cells #[.bool false] 4)).alloc (.cells #[.int .i64 0] 3) = W0 := ⟨_, rfl⟩
  have hst := targetsC_stops 5 (by omega) Bs Bn Bl g idx cs ca ccap m w hC
  have hsz : W0.heap.size = w.heap.size + 2 := by rw [← hW0]; simp
  have bR : Boxed W0 w.heap.size 4 (.bool false) := by rw [← hW0]; exact (Boxed.new w 4 (.bool false)).alloc _
  have bE : Boxed W0 (w.heap.size + 1) 3 (.int .i64 0) := by
    have := Boxed.new (w.alloc (.cells #[.bool false] 4)) 3 (.int .i64 0)
    rw [World.size_alloc] at this
    rw [← hW0]; exact this
  rw [hW0] at hB0
  obtain ⟨res, hres⟩ : ∃ res, res = ovL 0 (selL cs m idx.toList) := ⟨_, rfl⟩
  rw [← hres]
  have HR := Lib.hid hres
  have HW0 := Lib.hid hW0
  clear hC hres hW0
  refine callsIn_of_wp_marks Tryd.func87 rfl trivial ?_ rfl
  simp only [Tryd.ntmps87, List.size_toArray, List.length_cons, List.length_nil, Nat.reduceAdd, Nat.reduceSub, Array.replicate_succ, Array.replicate_zero, List.push_toArray, List.append_toArray, List.nil_append, List.cons_append]
  gi_wp2
  rw [HW0.out]
  refine wpIn_rangeFunc_ownH (n := 6) rfl (by omega) (gf := 107) (lb := #[.pointer (some ⟨Bs, 0, none⟩), .pointer (some ⟨Bn, 0, none⟩), .pointer (some ⟨Bl, 0, none⟩)]) rfl trivial (enters_of Tryd.func107 (by kernel_rfl) rfl)
    hst belowK_t (belowK_b (by omega)) hB0 (fun _ => rfl)
    (fun pre W => (Boxed W w.heap.size 4 (.bool false) ∧ Boxed W (w.heap.size + 1) 3 (.int .i64 (endL (pre.map (·.1)))) ∧ ovL 0 (pre.map (·.1)) = false) ∧ Below w.heap.size w W ∧ w.heap.size + 2 ≤ W.heap.size)
    (fun c pre W => (c = .ret ∧ Boxed W w.heap.size 4 (.bool true) ∧ ovL 0 (pre.map (·.1)) = true) ∧ Below w.heap.size w W)
    (OwnFrom.and (Own.from (fun s A B row hs hg hr => ⟨boxed_own _ _ (fun _ => .bool false) s A B row hs.1 hg hr, boxed_own _ _ (fun pre : List OExt => .int .i64 (endL (pre.map (·.1)))) s A B row hs.2.1 hg hr, hs.2.2⟩) _) (OwnFrom.and (ownFrom_below (Nat.le_refl _) (by omega)) (size_ownFrom _ _)))
    (fun c => OwnFrom.and (Own.from (fun s A B row hs hg hr => ⟨hs.1, boxed_own _ _ (fun _ => .bool true) s A B row hs.2.1 hg hr, hs.2.2⟩) _) (ownFrom_below (Nat.le_refl _) (by omega)))
    ⟨⟨bR, bE, rfl⟩, hB0, by omega⟩
    (fun x a' W => ∃ Bx, w.heap.size + 1 < Bx ∧ W.heap[Bx]? = some (.cells #[.int .i64 x.1.1, .int .i64 x.1.2] 71 (0, 0)) ∧ a' = { tmps := #[.func (.func 107) #[] #[.pointer (some ⟨Bs, 0, none⟩), .pointer (some ⟨Bn, 0, none⟩), .pointer (some ⟨Bl, 0, none⟩)], undef, .pointer (some ⟨w.heap.size, 0, none⟩), .pointer (some ⟨w.heap.size + 1, 0, none⟩), .pointer (some ⟨Bx, 0, none⟩), .func (.func 107) #[] #[.pointer (some ⟨Bs, 0, none⟩), .pointer (some ⟨Bn, 0, none⟩), .pointer (some ⟨Bl, 0, none⟩)], extV x.1, undef, undef, undef, undef, undef, undef], defers := [] })
    (fun x a' _ X Y row hs hg hr => by obtain ⟨Bx, h1, h2, h3⟩ := hs; exact ⟨Bx, h1, cells_own Bx _ _ () X Y row h2 hg (fun r e => (hr r e).2), h3⟩)
    ?assign ?body ?done ?stop
  case assign =>
    rintro l pre x W K ⟨⟨b1, b2, h1⟩, hB, hS3⟩ hK
    gi_wp2
    exact hK _ _ ((KeepsOthers.alloc _ _).from _) ((Below.refl _ W).alloc (by omega) _) ⟨⟨b1.alloc _, b2.alloc _, h1⟩, hB.alloc hB.size _, by simp; omega⟩ ⟨W.heap.size, by omega, World.alloc_heap_new W _, rfl⟩
  case body =>
    rintro l pre x a' W hl ⟨r, hr⟩ ⟨⟨b1, b2, h1⟩, hB, hS3⟩ ⟨Bx, hBx, bX, rfl⟩ hlt
    have hc := b2.cell
    have hf := b2.frozen
    have hcR := b1.cell
    have hfR := b1.frozen
    have x0 : W.cell? ⟨Bx, 0, none⟩ = some (.int .i64 x.1.1) := by simp [World.cell?, bX]
    have x1 : W.cell? ⟨Bx, 1, none⟩ = some (.int .i64 x.1.2) := by simp [World.cell?, bX]
    have hE := end_gives x.1 x.2 W
    have hsn := ovL_snoc (pre.map (·.1)) x.1
    have hen := endL_snoc (pre.map (·.1)) x.1
    have hmap : (pre ++ [x]).map (·.1) = pre.map (·.1) ++ [x.1] := by simp
    rw [← hmap] at hsn hen
    generalize endL (pre.map (·.1)) = e0 at *
    by_cases hx : x.1.1 < e0
    · have hov : Hid (ovL 0 ((pre ++ [x]).map (·.1)) = true) := Lib.hid (by rw [hsn]; simp [hx])
      clear hsn hen hmap hE
      gi_wp2
      exact ⟨(KeepsOthers.setCell _ _ _).from _, ⟨rfl, b1.set _, hov.out⟩, hB.setCell (p := ⟨w.heap.size, 0, none⟩) (Nat.le_refl _) _⟩
    · have hov : Hid (ovL 0 ((pre ++ [x]).map (·.1)) = false) := Lib.hid (by rw [hsn, h1]; simp [hx])
      have hen2 := Lib.hid hen
      clear hsn hen hmap
      gi_wp2_with (refine ⟨trivial, ?_⟩; gi_at_call 48; refine (CallsIn.inRound l (callsIn_wide.2 hE)).mono ?_; rintro e w' ⟨rfl, hb⟩; have hc2 := (show Boxed w' _ _ _ from heap_below b2 hb).cell; have hf2 := (show Boxed w' _ _ _ from heap_below b2 hb).frozen)
      have b1' : Boxed w' w.heap.size 4 (.bool false) := heap_below b1 hb
      have b2' : Boxed w' (w.heap.size + 1) 3 (.int .i64 e0) := heap_below b2 hb
      refine ⟨(KeepsFrom.of_grownBy (below_grown0 hb) (by intro j e; cases e)).trans ((KeepsOthers.setCell _ _ _).from _), (hb.mono (by omega)).trans ((Below.refl _ w').setCell (p := ⟨w.heap.size + 1, 0, none⟩) (by simp) _), ⟨b1'.other (by omega) _, ?_, hov.out⟩, (hB.trans (hb.mono hB.size)).setCell (p := ⟨w.heap.size + 1, 0, none⟩) (by simp) _, by have := hb.size; simp; omega⟩
      rw [hen2.out]
      exact b2'.set _
  case done =>
    rintro D ys W hD hys ⟨⟨b1, b2, h1⟩, hB, hS3⟩ hK
    have hcR := b1.cell
    have hfR := b1.frozen
    rw [hys, ← HR.out] at h1
    have HH := Lib.hid h1
    clear h1 hys
    gi_wp2
    have hK' := (KeepsOthers.setCell W ⟨w.heap.size, 0, none⟩ (.bool false)).same D _ hK rfl
    refine ⟨by simp, .inl ⟨_, _, rfl, run_takeDeferred hK', ?_⟩⟩
    have hc5 := cell_kept (World.cell?_setCell_same' W ⟨w.heap.size, 0, none⟩ (.bool false) (by rw [hcR]; rfl)) (grownBy_putObj' _ D (.deferred none)) (fun r e => by cases e; exact ⟨_, hK', rfl⟩)
    refine ⟨.bool false, ?_, by rw [HH.out], (hB.setCell (p := ⟨w.heap.size, 0, none⟩) (Nat.le_refl _) _).trans (belowK_b (w := w) (Nat.le_refl _) _ D _ _ (by omega) hK' rfl rfl)⟩
    simp [results, Tryd.f87, go_sem, hc5]
  case stop =>
    rintro D c pre W hD hpre ⟨⟨rfl, b1, ho⟩, hB⟩ hK
    have hcR := b1.cell
    have HH := Lib.hid (ovL_prefix hpre ho)
    clear hpre ho
    gi_wp2
    refine ⟨by simp, .inl ⟨_, _, rfl, run_takeDeferred hK, ?_⟩⟩
    have hc5 := cell_kept hcR (grownBy_putObj' _ D (.deferred none)) (fun r e => by cases e; exact ⟨_, hK, rfl⟩)
    refine ⟨.bool true, ?_, by rw [HR.out, HH.out], hB.trans (belowK_b (w := w) (Nat.le_refl _) W D _ _ (by omega) hK rfl rfl)⟩
    simp [results, Tryd.f87, go_sem, hc5]
end Go.Proofs.YtdedfjkenbaebaaDoor
