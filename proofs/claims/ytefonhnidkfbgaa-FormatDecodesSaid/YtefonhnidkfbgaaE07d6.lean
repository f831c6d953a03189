import Derived.Deep.Onto
import Derived.Test.YtefonhnidkfbgaaE07d2
import Derived.Test.YtefonhnidkfbgaaE07d5
import Derived.LoopTactic
import Derived.BigQuiet
import Derived.Deep.QuietTactic
import Derived.Great.BuildSlice
import Derived.Shelf.Abstract
import Derived.Test.YtefonhnidkfbgaaE07d1
/- Several rows that the call itself made, apart from each other: some of them grow, some are written. -/
namespace Go.Proofs.Ytefonhnidkfbgaa
open Go.RowKit
set_option linter.unusedVariables false

/-- What an element type must be, of so many cells and of however many bytes. -/
structure ElemS (P : Program) (t e : TypeId) (size : Nat) where
  i : TypeInfo
  z : Value
  bytes : Nat
  ht : P.underlying t = some (.slice e)
  hi : P.info? e = some i
  hz : i.zero = some z
  hsize : i.size = size
  hby : i.bytes = bytes
  hzs : z.cells.size = size
  hsz : 0 < size
abbrev ElemW (P : Program) (t e : TypeId) := ElemS P t e 1
theorem elemW8 : ∃ E : ElemW Try.prog 22 5, E.bytes = 1 := by
  obtain ⟨E, h⟩ := elem8
  exact ⟨⟨E.i, E.z, E.bytes, E.ht, E.hi, E.hz, E.hsize, E.hby, E.hzs, by omega⟩, h⟩
theorem elemWP : ∃ E : ElemW Try.prog 66 22, E.bytes = 24 := by
  have h : (Try.prog.info? 22).map (fun i => (i.zero, i.size, i.bytes)) = some (some (.slice none 0 0), 1, 24) := by kernel_rfl
  obtain ⟨i, hi, he⟩ := Option.map_eq_some_iff.1 h
  simp only [Prod.mk.injEq] at he
  exact ⟨⟨i, .slice none 0 0, 24, Try.underlying66, hi, he.1, he.2.1, he.2.2, rfl, by omega⟩, rfl⟩

theorem perm_third {α : Type} (a b c : α) (l : List α) : (c :: a :: b :: l).Perm (a :: b :: c :: l) := (List.Perm.swap _ _ _).trans ((List.Perm.swap _ _ _).cons _)
theorem perm_snoc {α : Type} (a b e x : α) (l : List α) : (b :: a :: x :: (l ++ [e])).Perm (a :: b :: e :: x :: l) :=
  ((((List.perm_append_singleton e l).cons x).cons a).cons b).trans ((List.Perm.swap _ _ _).trans (((List.Perm.swap _ _ _).cons _).cons _))

/-- A row that the call itself made: n elements of so many cells, behind the slice v. -/
structure Row where
  e : TypeId
  size : Nat
  v : Value
  n : Nat
  xs : List Value
def Row.At (r : Row) (base : Nat) (w : World) : Prop := w.ownsRow base r.e r.size r.v r.n r.xs
def ApartV (u v : Value) : Prop := u.ownBlock = none ∨ u.ownBlock ≠ v.ownBlock
theorem ApartV.symm {u v : Value} (h : ApartV u v) : ApartV v u := by
  unfold ApartV at *
  rcases h with h | h
  · rw [h]
    cases v.ownBlock with
    | none => exact .inl rfl
    | some g => exact .inr (fun h => by cases h)
  · exact .inr (Ne.symm h)

/-- A world that holds such rows; below w0's heap nothing has changed. -/
structure Piles (w0 : World) (rs : List Row) where
  w : World
  below : Below w0.heap.size w0 w
  rows : ∀ r ∈ rs, r.At w0.heap.size w
  apart : (rs.map (·.v)).Pairwise ApartV

theorem own_later {w w' : World} {base : Nat} {e : TypeId} {size : Nat} {v : Value} {n : Nat} {xs : List Value} (h : w.ownsRow base e size v n xs) (hb : Below w.heap.size w w') : w'.ownsRow base e size v n xs :=
  ⟨h.1, h.2.imp id fun ⟨g, cap, cur, e1, e2, e3, e4⟩ => ⟨g, cap, cur, e1, e2, (hb.block _ (Array.getElem?_eq_some_iff.1 e3).1).trans e3, e4⟩⟩

section
variable {w0 : World} {rs : List Row}
theorem Piles.later (S : Piles w0 rs) {w' : World} (h : Below S.w.heap.size S.w w') : ∃ S' : Piles w0 rs, w' = S'.w :=
  ⟨⟨w', S.below.trans (h.mono S.below.size), fun r hr => own_later (S.rows r hr) h, S.apart⟩, rfl⟩
theorem Piles.drewC (S : Piles w0 rs) : ∃ S' : Piles w0 rs, S.w.drew = S'.w := S.later (Below.refl _ _).drew
theorem Piles.call {P : Program} {f : FuncId} {args : Array Value} {u : Value} {S : Piles w0 rs} (h : Calls P f args S.w (Gives u S.w)) :
    Calls P f args S.w fun en w'' => en = .returned u ∧ ∃ S' : Piles w0 rs, w'' = S'.w :=
  h.mono fun _ w'' ⟨he, hb⟩ => ⟨he, S.later hb⟩
theorem Piles.perm (S : Piles w0 rs) {rs' : List Row} (h : rs'.Perm rs) : ∃ S' : Piles w0 rs', S.w = S'.w :=
  ⟨⟨S.w, S.below, fun r hr => S.rows r (h.mem_iff.1 hr), (List.Perm.pairwise_iff (fun {a b} h => ApartV.symm h) (h.map _)).2 S.apart⟩, rfl⟩
theorem Piles.sub (S : Piles w0 rs) {rs' : List Row} (h : rs'.Sublist rs) : ∃ S' : Piles w0 rs', S.w = S'.w :=
  ⟨⟨S.w, S.below, fun r hr => S.rows r (h.subset hr), S.apart.sublist (h.map _)⟩, rfl⟩
/-- One more row, in a new block. -/
theorem Piles.fresh (S : Piles w0 rs) {w' : World} (h : Below S.w.heap.size S.w w') (r : Row) (hr : r.At w0.heap.size w') (hb : ∀ g, r.v.ownBlock = some g → S.w.heap.size ≤ g) : ∃ S' : Piles w0 (r :: rs), w' = S'.w := by
  refine ⟨⟨w', S.below.trans (h.mono S.below.size), fun q hq => ?_, ?_⟩, rfl⟩
  · rcases List.mem_cons.1 hq with rfl | hq
    · exact hr
    · exact own_later (S.rows q hq) h
  · rw [List.map_cons, List.pairwise_cons]
    refine ⟨fun u hu => ?_, S.apart⟩
    obtain ⟨q, hq, rfl⟩ := List.mem_map.1 hu
    unfold ApartV
    cases hg : r.v.ownBlock with
    | none => exact .inl rfl
    | some g =>
      right
      intro he
      have h1 := hb g hg
      have h2 := ((S.rows q hq).lt g he.symm).2
      omega
/-- One more row, apart from the others. -/
theorem Piles.add (S : Piles w0 rs) (r : Row) (hr : r.At w0.heap.size S.w) (hap : ∀ q ∈ rs, ApartV r.v q.v) : ∃ S' : Piles w0 (r :: rs), S.w = S'.w :=
  ⟨⟨S.w, S.below, fun q hq => by rcases List.mem_cons.1 hq with rfl | hq; exact hr; exact S.rows q hq, by
    rw [List.map_cons, List.pairwise_cons]
    exact ⟨fun u hu => by obtain ⟨q, hq, rfl⟩ := List.mem_map.1 hu; exact hap q hq, S.apart⟩⟩, rfl⟩
theorem Piles.ltAll (S : Piles w0 rs) : ∀ q ∈ rs, ∀ g, q.v.ownBlock = some g → g < S.w.heap.size := fun q hq g hg => ((S.rows q hq).lt g hg).2
theorem box_at {w : World} {base b : Nat} {t : TypeId} {cs : Array Value} {size : Nat} (hb : base ≤ b) (h : w.heap[b]? = some (.cells cs t (0, 0))) (hs : cs.size = size) : Row.At ⟨t, size, .slice (some ⟨b, 0, none⟩) 1 1, 1, cs.toList⟩ base w := by
  refine ⟨by simp [hs], .inr ⟨b, 1, cs, rfl, hb, h, Nat.le_refl _, by unfold maxLen; omega, by simp [hs], ?_⟩⟩
  rw [List.take_of_length_le]
  simp [hs]
/-- A block of its own, as a row. -/
theorem Piles.box (S : Piles w0 rs) (t : TypeId) (cs : Array Value) (size : Nat) (hs : cs.size = size) : ∃ S' : Piles w0 (⟨t, size, .slice (some ⟨S.w.heap.size, 0, none⟩) 1 1, 1, cs.toList⟩ :: rs), S.w.alloc (.cells cs t) = S'.w := by
  refine S.fresh ((Below.refl _ _).alloc (Nat.le_refl _) _) _ ?_ (fun g hg => by simp [Value.ownBlock] at hg; omega)
  refine ⟨by simp [hs], .inr ⟨S.w.heap.size, 1, cs, rfl, S.below.size, World.alloc_heap_new _ _, Nat.le_refl _, by unfold maxLen; omega, by simp [hs], ?_⟩⟩
  rw [List.take_of_length_le]
  simp [hs]
theorem Piles.empty (S : Piles w0 rs) (e : TypeId) (size : Nat) : ∃ S' : Piles w0 (⟨e, size, .slice (some ⟨S.w.heap.size, 0, none⟩) 0 0, 0, []⟩ :: rs), S.w.alloc (.cells #[] e) = S'.w := by
  refine S.fresh ((Below.refl _ _).alloc (Nat.le_refl _) _) _ ?_ (fun g hg => by simp [Value.ownBlock] at hg; omega)
  exact World.ownsRow_made (base := w0.heap.size) (e := e) (size := size) S.w #[] 0 S.below.size (by unfold maxLen; omega) (by simp)
end

/-- The first box; a row that is nil. -/
theorem Piles.start (w : World) (t : TypeId) (cs : Array Value) (size : Nat) (hs : cs.size = size) : ∃ S : Piles w [⟨t, size, .slice (some ⟨w.heap.size, 0, none⟩) 1 1, 1, cs.toList⟩], w.alloc (.cells cs t) = S.w :=
  (⟨w, Below.refl _ _, by simp, List.Pairwise.nil⟩ : Piles w []).box t cs size hs
theorem Piles.nilRow {w0 : World} {rs : List Row} (S : Piles w0 rs) (e : TypeId) : ∃ S' : Piles w0 (⟨e, 1, .slice none 0 0, 0, []⟩ :: rs), S.w = S'.w :=
  S.fresh (Below.refl _ _) _ (World.ownsRow_nil S.w w0.heap.size e 1) (fun g hg => by cases hg)

/-- The same rows, in other words and in another order. -/
theorem Piles.conv {w0 : World} {rs : List Row} (S : Piles w0 rs) (rs1 : List Row) (h1 : rs = rs1) {rs2 : List Row} (h2 : rs2.Perm rs1) : ∃ S' : Piles w0 rs2, S.w = S'.w := by subst h1; exact S.perm h2

/-- Where an append puts its row. -/
theorem append_block {P : Program} {t e : TypeId} {size : Nat} (E : ElemS P t e size) {w w' : World} {base n m c : Nat} {v v' : Value} {xs news : List Value} (ty : TypeId) (hown : w.ownsRow base e size v n xs) (ad : Addr) (hl : news.length = m * size) (hnews : ∀ j u, news[j]? = some u → w.cell? (ad.add j) = some u) (h1 : ∀ u ∈ news, u.oneCell' = true)
    (h63 : n + m ≤ maxLen) (hbytes : (n + m) * E.bytes ≤ 140737488355328) (hrun : (Builtin.append_ #[t, t] ty #[v, .slice (some ad) m c]).run P w = .ok v' w') (hiff : v' = .slice none 0 0 ↔ v = .slice none 0 0 ∧ m = 0) : v'.ownBlock = v.ownBlock ∨ v'.ownBlock = some w.heap.size := by
  have hsmall : n + m ≤ 9223372036854775807 := by simp only [maxLen] at h63; omega
  have hl1 : news.length = m * E.i.size := by rw [E.hsize, hl]
  rcases hown.2 with ⟨rfl, rfl⟩ | ⟨g, cap, cur, rfl, hbg, hg, hnc, hcm, hcs, htake⟩
  · by_cases hm : m = 0
    · rw [hiff.2 ⟨rfl, hm⟩]
      exact .inl rfl
    · have hr := run_append_nil (P := P) w t ty e E.i E.z E.ht E.hi E.hz ad m c news hl1 hnews (by omega) (by omega) (by rw [E.hby]; simp only [Nat.zero_add] at hbytes; omega)
      rw [hr] at hrun
      injection hrun with h2 h3
      subst h2
      exact .inr rfl
  · by_cases hroom : n + m ≤ cap
    · have hr := run_append_room (P := P) w t ty e E.i E.ht E.hi g n cap cur hg ad m c news hl1 hnews h1 hroom (by rw [hl1, hcs, E.hsize, ← Nat.add_mul]; exact Nat.mul_le_mul_right _ hroom)
      rw [hr] at hrun
      injection hrun with h2 h3
      subst h2
      exact .inl rfl
    · have hr := run_append_grow (P := P) w t ty e E.i E.z E.ht E.hi E.hz ⟨g, 0, none⟩ n cap xs (by rw [E.hsize]; exact hown.1) (hown.cells (g := g) rfl) ad m c news hl1 hnews (by omega) (by omega) (growslice_fits (by omega) (by rw [E.hby]; exact hbytes))
      rw [hr] at hrun
      injection hrun with h2 h3
      subst h2
      exact .inr rfl

/-- An append to the first row. -/
theorem run_append_pilesS {P : Program} {t e : TypeId} {size : Nat} (E : ElemS P t e size) {w0 : World} {rs : List Row} {v : Value} {n : Nat} {xs : List Value} (S : Piles w0 (⟨e, size, v, n, xs⟩ :: rs)) (ty : TypeId) (sp : Option Addr) (m c : Nat) (news : List Value) (hl : news.length = m * size)
    (hnil : sp = none → m = 0 ∧ c = 0) (hnews : ∀ ad, sp = some ad → ∀ j u, news[j]? = some u → S.w.cell? (ad.add j) = some u) (h1 : ∀ u ∈ news, u.oneCell' = true) (h63 : n + m ≤ maxLen) (hbytes : (n + m) * E.bytes ≤ 140737488355328) :
    ∃ v' w', (Builtin.append_ #[t, t] ty #[v, .slice sp m c]).run P S.w = .ok v' w' ∧ ∃ S' : Piles w0 (⟨e, size, v', n + m, xs ++ news⟩ :: rs), w' = S'.w := by
  have hown : S.w.ownsRow w0.heap.size e size v n xs := S.rows _ List.mem_cons_self
  have hap := S.apart
  rw [List.map_cons, List.pairwise_cons] at hap
  cases sp with
  | none =>
    obtain ⟨rfl, rfl⟩ := hnil rfl
    obtain rfl := List.eq_nil_of_length_eq_zero (by rw [hl, Nat.zero_mul])
    refine ⟨v, S.w, run_append_owned_none (P := P) (w := S.w) w0.heap.size t ty e E.i size E.ht E.hi v n xs hown, ⟨S.w, S.below, fun r hr => ?_, ?_⟩, rfl⟩
    · rcases List.mem_cons.1 hr with rfl | hr
      · simpa [Row.At] using hown
      · exact S.rows r (List.mem_cons_of_mem _ hr)
    · exact S.apart
  | some ad =>
    obtain ⟨v', w', hrun, ho, hg, hiff⟩ := run_append_own (P := P) S.w w0.heap.size t ty e E.i E.z size E.bytes E.ht E.hi E.hz E.hsize E.hby E.hzs E.hsz v n xs hown ad m c news hl (hnews ad rfl) h1 h63 hbytes S.below.size
    have hblk := append_block E ty hown ad hl (hnews ad rfl) h1 h63 hbytes hrun hiff
    refine ⟨v', w', hrun, ⟨w', S.below.grown hg S.below.size (fun k hk => (hown.lt k hk).1), fun r hr => ?_, ?_⟩, rfl⟩
    · rcases List.mem_cons.1 hr with rfl | hr
      · exact ho
      · refine World.ownsRow.kept (S.rows r (List.mem_cons_of_mem _ hr)) hg ?_
        rcases hap.1 r.v (List.mem_map.2 ⟨r, hr, rfl⟩) with h | h
        · cases hr2 : r.v.ownBlock with
          | none => exact .inl rfl
          | some g => right; rw [h]; intro h3; cases h3
        · right; exact Ne.symm h
    · rw [List.map_cons, List.pairwise_cons]
      refine ⟨fun u hu => ?_, hap.2⟩
      rcases hblk with h | h
      · have := hap.1 u hu
        unfold ApartV at this ⊢
        rwa [h]
      · obtain ⟨q, hq, rfl⟩ := List.mem_map.1 hu
        unfold ApartV
        right
        rw [h]
        intro he
        have := ((S.rows q (List.mem_cons_of_mem _ hq)).lt _ he.symm).2
        omega

/-- The same for the walk. -/
theorem wpList_append_pilesS {P : Program} {t e : TypeId} {size : Nat} (E : ElemS P t e size) {w0 : World} {rs : List Row} {v : Value} {n : Nat} {xs : List Value} {ops : Array Oper} {rest : List Oper} {o : Oper} {a : Act} {Q : Exit → Act → World → Prop} (S : Piles w0 (⟨e, size, v, n, xs⟩ :: rs)) (sO xO : Operand)
    (hgd : o.guard = none) (ho : o.op = .call { callee := .builtin .append, args := #[sO, xO], argTypes := #[t, t] }) (hs : a.eval sO = v) (sp : Option Addr) (m c : Nat) (news : List Value) (hl : news.length = m * size) (hx : a.eval xO = .slice sp m c)
    (hnil : sp = none → m = 0 ∧ c = 0) (hnews : ∀ ad, sp = some ad → ∀ j u, news[j]? = some u → S.w.cell? (ad.add j) = some u) (h1 : ∀ u ∈ news, u.oneCell' = true) (h63 : n + m ≤ maxLen) (hbytes : (n + m) * E.bytes ≤ 140737488355328)
    (H : ∀ v' (S' : Piles w0 (⟨e, size, v', n + m, xs ++ news⟩ :: rs)), wpList P ops Q rest (a.put o.dst v') S'.w) : wpList P ops Q (o :: rest) a S.w := by
  obtain ⟨v', w', hrun, S', rfl⟩ := run_append_pilesS E S o.type sp m c news hl hnil hnews h1 h63 hbytes
  refine wpList_plain hgd fun K hK => ?_
  unfold Oper.wp
  simp [execOp, ho, resolve, invoke, builtin, hs, hx, hrun, Result.andThen]
  exact hK _ _ (H v' S')

/-- The same, of elements of one cell. -/
theorem wpList_append_piles {P : Program} {t e : TypeId} (E : ElemW P t e) {w0 : World} {rs : List Row} {v : Value} {n : Nat} {xs : List Value} {ops : Array Oper} {rest : List Oper} {o : Oper} {a : Act} {Q : Exit → Act → World → Prop} (S : Piles w0 (⟨e, 1, v, n, xs⟩ :: rs)) (sO xO : Operand)
    (hgd : o.guard = none) (ho : o.op = .call { callee := .builtin .append, args := #[sO, xO], argTypes := #[t, t] }) (hs : a.eval sO = v) (sp : Option Addr) (m c : Nat) (news : List Value) (hl : news.length = m) (hx : a.eval xO = .slice sp m c)
    (hnil : sp = none → m = 0 ∧ c = 0) (hnews : ∀ ad, sp = some ad → ∀ j u, news[j]? = some u → S.w.cell? (ad.add j) = some u) (h1 : ∀ u ∈ news, u.oneCell' = true) (h63 : n + m ≤ maxLen) (hbytes : (n + m) * E.bytes ≤ 140737488355328)
    (H : ∀ v' (S' : Piles w0 (⟨e, 1, v', n + m, xs ++ news⟩ :: rs)), wpList P ops Q rest (a.put o.dst v') S'.w) : wpList P ops Q (o :: rest) a S.w :=
  wpList_append_pilesS E S sO xO hgd ho hs sp m c news (by omega) hx hnil hnews h1 h63 hbytes H

/-- One element, in a new literal, is appended to the second row. -/
theorem wpList_append_one {P : Program} {t e : TypeId} (E : ElemW P t e) {w0 : World} {r1 : Row} {rs : List Row} {v : Value} {n : Nat} {xs : List Value} {ops : Array Oper} {rest : List Oper} {o : Oper} {a : Act} {Q : Exit → Act → World → Prop} (S : Piles w0 (r1 :: ⟨e, 1, v, n, xs⟩ :: rs)) (x : Value) (hx1 : x.oneCell' = true) (sO xO : Operand)
    (hgd : o.guard = none) (ho : o.op = .call { callee := .builtin .append, args := #[sO, xO], argTypes := #[t, t] }) (hs : a.eval sO = v) (hx : a.eval xO = .slice (some ⟨S.w.heap.size, 0, none⟩) 1 1) (h63 : n + 1 ≤ maxLen) (hbytes : (n + 1) * E.bytes ≤ 140737488355328)
    (H : ∀ v' (S' : Piles w0 (⟨e, 1, v', n + 1, xs ++ [x]⟩ :: r1 :: rs)), wpList P ops Q rest (a.put o.dst v') S'.w) : wpList P ops Q (o :: rest) a (S.w.alloc (.cells #[x] e)) := by
  obtain ⟨S3, hS3⟩ := S.later (w' := S.w.alloc (.cells #[x] e)) ((Below.refl _ _).alloc (Nat.le_refl _) _)
  obtain ⟨S4, hS4⟩ := S3.perm (rs' := ⟨e, 1, v, n, xs⟩ :: r1 :: rs) (List.Perm.swap _ _ _)
  have hc : S4.w.cell? ⟨S.w.heap.size, 0, none⟩ = some x := by rw [← hS4, ← hS3, cell_of (World.alloc_heap_new S.w _)]; rfl
  rw [hS3, hS4]
  refine wpList_append_piles E S4 sO xO hgd ho hs (some ⟨S.w.heap.size, 0, none⟩) 1 1 [x] rfl hx (fun h => by cases h) (fun ad had j u hu => ?_) (fun u hu => by simp at hu; subst hu; exact hx1) h63 hbytes H
  obtain rfl := Option.some.inj had
  cases j with
  | zero => simp at hu; subst hu; rw [Addr.add_mid]; exact hc
  | succ j => simp at hu

/-- A cell of a row is written. -/
theorem Piles.storeAt {w0 : World} {rs : List Row} (S : Piles w0 rs) (p : Nat) (r : Row) (hp : rs[p]? = some r) (g n c : Nat) (hv : r.v = .slice (some ⟨g, 0, none⟩) n c) (hn : r.n = n) (i : Nat) (hi : i < n * r.size) (u : Value) :
    ∃ S' : Piles w0 (rs.set p { r with xs := r.xs.set i u }), S.w.setCell ⟨g, i, none⟩ u = S'.w := by
  have hr := S.rows r (List.mem_of_getElem? hp)
  have hpl := (List.getElem?_eq_some_iff.1 hp).1
  have hgb : w0.heap.size ≤ g := (hr.lt g (by rw [hv]; rfl)).1
  refine ⟨⟨_, S.below.setCell (p := ⟨g, i, none⟩) hgb _, fun q hq => ?_, ?_⟩, rfl⟩
  · obtain ⟨j, hj⟩ := List.getElem?_of_mem hq
    rw [List.getElem?_set] at hj
    by_cases hpj : p = j
    · rw [if_pos hpj, if_pos (by omega)] at hj
      obtain rfl := Option.some.inj hj
      unfold Row.At at hr ⊢
      simp only
      rw [hv, hn] at hr ⊢
      rcases hr.2 with ⟨h0, _⟩ | ⟨g', cap, cur, e1, e2, e3, e4, e5, e6, e7⟩
      · cases h0
      · simp only [Value.slice.injEq, Option.some.injEq, Addr.mk.injEq, and_true, true_and] at e1
        obtain ⟨rfl, rfl⟩ := e1
        refine ⟨by rw [List.length_set]; exact hr.1, .inr ⟨g, c, cur.setIfInBounds i u, rfl, e2, heap_setCell_same _ _ _ _ _ _ e3, e4, e5, by simpa using e6, ?_⟩⟩
        rw [Array.toList_setIfInBounds, List.take_set, e7]
    · rw [if_neg hpj] at hj
      have hqm := List.mem_of_getElem? hj
      have hq0 := S.rows q hqm
      have hapt : ApartV r.v q.v := by
        have hh := List.pairwise_iff_getElem.1 S.apart
        have hjl := (List.getElem?_eq_some_iff.1 hj).1
        have e1 : (rs.map (·.v))[p]'(by simpa using hpl) = r.v := by
          rw [List.getElem_map]
          rw [(List.getElem?_eq_some_iff.1 hp).2]
        have e2 : (rs.map (·.v))[j]'(by simpa using hjl) = q.v := by
          rw [List.getElem_map]
          rw [(List.getElem?_eq_some_iff.1 hj).2]
        rcases Nat.lt_or_ge p j with h | h
        · have := hh p j (by simpa using hpl) (by simpa using hjl) h
          rwa [e1, e2] at this
        · have := hh j p (by simpa using hjl) (by simpa using hpl) (by omega)
          rw [e1, e2] at this
          exact this.symm
      refine ⟨hq0.1, hq0.2.imp id fun ⟨g', cap, cur, e1, e2, e3, e4⟩ => ⟨g', cap, cur, e1, e2, (Below.heap_setCell _ _ _ _ ?_).trans e3, e4⟩⟩
      simp only
      intro hgg
      rcases hapt with h | h
      · rw [hv] at h; cases h
      · rw [hv, e1] at h
        simp [Value.ownBlock] at h
        omega
  · rw [List.map_set]
    have : (rs.map (·.v)).set p r.v = rs.map (·.v) := by
      have h : (rs.map (·.v))[p]? = some r.v := by rw [List.getElem?_map, hp]; rfl
      apply List.ext_getElem?
      intro j
      rw [List.getElem?_set]
      by_cases hpj : p = j
      · subst hpj; rw [if_pos rfl, if_pos (by simpa using hpl), h]
      · rw [if_neg hpj]
    rw [this]
    exact S.apart

/-- A row of bytes can be read. -/
theorem Piles.bytes {w0 : World} {rs : List Row} (S : Piles w0 rs) {v : Value} {n : Nat} {l : List Int} (h : (⟨5, 1, v, n, l.map (Value.int .u8)⟩ : Row) ∈ rs) : l.length = n ∧ ∃ (a : Option Addr) (cap : Nat), v = .slice a n cap ∧ BytesIn S.w a l cap := by
  have hr := S.rows _ h
  have hl : l.length = n := by have := hr.1; simp at this; omega
  subst hl
  obtain ⟨a, cap, h1, h2⟩ := (⟨S.w, S.below, by rw [List.length_map]; exact hr⟩ : OwnW w0 5 v (l.map (Value.int .u8))).bytes
  exact ⟨rfl, a, cap, h1, h2⟩
/-- What a row looks like. -/
theorem Piles.view {w0 : World} {rs : List Row} (S : Piles w0 rs) {r : Row} (h : r ∈ rs) : ∃ (a : Option Addr) (cap : Nat), r.v = .slice a r.n cap ∧ (a = none → cap = 0) ∧ r.n ≤ cap ∧ cap ≤ 9223372036854775807 ∧ (0 < r.n → ∃ g, a = some ⟨g, 0, none⟩ ∧ ∀ (j : Nat) (u : Value), r.xs[j]? = some u → S.w.cell? ⟨g, j, none⟩ = some u ∧ S.w.frozen? ⟨g, j, none⟩ = false) := by
  have hr := S.rows _ h
  rcases hr.2 with ⟨h1, h0⟩ | ⟨g, cap, cur, hv, hg, hb, hc, hm, hs, ht⟩
  · exact ⟨none, 0, by rw [h1, h0], fun _ => rfl, by omega, by omega, fun h => by omega⟩
  · refine ⟨_, cap, hv, (fun h => by cases h), hc, by unfold maxLen at hm; omega, fun _ => ⟨g, rfl, fun j u hu => ⟨?_, free_of hb j⟩⟩⟩
    have := World.ownsRow.cells hr (g := g) (by rw [hv]; rfl) j u hu
    rwa [Addr.add_mid, Nat.zero_add] at this

/-- The cells of a box. -/
theorem Piles.boxCells {w0 : World} {rs : List Row} (S : Piles w0 rs) {t : TypeId} {size b : Nat} {xs : List Value} (h : (⟨t, size, .slice (some ⟨b, 0, none⟩) 1 1, 1, xs⟩ : Row) ∈ rs) : b < S.w.heap.size ∧ ∀ (j : Nat) (u : Value), xs[j]? = some u → S.w.cell? ⟨b, j, none⟩ = some u := by
  have hr := S.rows _ h
  refine ⟨(hr.lt b rfl).2, fun j u hu => ?_⟩
  have := World.ownsRow.cells hr (g := b) rfl j u hu
  rwa [Addr.add_mid, Nat.zero_add] at this

/-- The five cells of a box are written. -/
theorem Piles.put5 {w0 : World} {rs : List Row} (S : Piles w0 rs) (p : Nat) {t : TypeId} {b : Nat} {z0 z1 z2 z3 z4 : Value} (hp : rs[p]? = some ⟨t, 5, .slice (some ⟨b, 0, none⟩) 1 1, 1, [z0, z1, z2, z3, z4]⟩) (u0 u1 u2 u3 u4 : Value) :
    ∃ S' : Piles w0 (rs.set p ⟨t, 5, .slice (some ⟨b, 0, none⟩) 1 1, 1, [u0, u1, u2, u3, u4]⟩), ((((S.w.setCell ⟨b, 0, none⟩ u0).setCell ⟨b, 1, none⟩ u1).setCell ⟨b, 2, none⟩ u2).setCell ⟨b, 3, none⟩ u3).setCell ⟨b, 4, none⟩ u4 = S'.w := by
  have hpl := (List.getElem?_eq_some_iff.1 hp).1
  have hs : ∀ (r : Row) (l : List Row), l.length = rs.length → (l.set p r)[p]? = some r := fun r l hl => by rw [List.getElem?_set]; simp [hl, hpl]
  obtain ⟨S1, h1⟩ := S.storeAt p _ hp b 1 1 rfl rfl 0 (by simp) u0
  obtain ⟨S2, h2⟩ := S1.storeAt p _ (hs _ _ rfl) b 1 1 rfl rfl 1 (by simp) u1
  obtain ⟨S3, h3⟩ := S2.storeAt p _ (hs _ _ (by simp)) b 1 1 rfl rfl 2 (by simp) u2
  obtain ⟨S4, h4⟩ := S3.storeAt p _ (hs _ _ (by simp)) b 1 1 rfl rfl 3 (by simp) u3
  obtain ⟨S5, h5⟩ := S4.storeAt p _ (hs _ _ (by simp)) b 1 1 rfl rfl 4 (by simp) u4
  obtain ⟨S6, h6⟩ := S5.conv (rs.set p ⟨t, 5, .slice (some ⟨b, 0, none⟩) 1 1, 1, [u0, u1, u2, u3, u4]⟩) (by simp) (List.Perm.refl _)
  exact ⟨S6, by rw [h1, h2, h3, h4, h5, h6]⟩
end Go.Proofs.Ytefonhnidkfbgaa

/- Readers of package wire: their blocks; left, ready, At, Rest, Fault, Fail, pass. -/
namespace Go.Proofs.Ytefonhnidkfbgaa
open Go.RowKit
set_option linter.unusedVariables false
set_option linter.unusedSimpArgs false

/-- The block of a reader: the offset n, the length L, the bytes, the code and the place of the fault. -/
abbrev rdO (n L : Nat) (da : Option Addr) (dcap : Nat) (c p : Int) : Obj := .cells #[.int .i64 n, .int .i64 L, .slice da L dcap, .int .i64 c, .int .i64 p] 74 (0, 0)

/-- Its five cells. -/
theorem rd_cells {w : World} {g n L dcap : Nat} {da : Option Addr} {c p : Int} (h : w.heap[g]? = some (rdO n L da dcap c p)) :
    w.cell? ⟨g, 0, none⟩ = some (.int .i64 n) ∧ w.cell? ⟨g, 1, none⟩ = some (.int .i64 L) ∧ w.cell? ⟨g, 2, none⟩ = some (.slice da L dcap) ∧ w.cell? ⟨g, 3, none⟩ = some (.int .i64 c) ∧ w.cell? ⟨g, 4, none⟩ = some (.int .i64 p) :=
  ⟨by rw [cell_of h]; rfl, by rw [cell_of h]; rfl, by rw [cell_of h]; rfl, by rw [cell_of h]; rfl, by rw [cell_of h]; rfl⟩
theorem rd_cellsW {w0 : World} {g n L dcap : Nat} {da : Option Addr} {c p : Int} (h : w0.heap[g]? = some (rdO n L da dcap c p)) (s : HeldW w0 []) :
    s.w.cell? ⟨g, 0, none⟩ = some (.int .i64 n) ∧ s.w.cell? ⟨g, 1, none⟩ = some (.int .i64 L) ∧ s.w.cell? ⟨g, 2, none⟩ = some (.slice da L dcap) ∧ s.w.cell? ⟨g, 3, none⟩ = some (.int .i64 c) ∧ s.w.cell? ⟨g, 4, none⟩ = some (.int .i64 p) :=
  rd_cells (heap_below h s.below)

theorem left_any (g n L dcap : Nat) (da : Option Addr) (c p : Int) (w : World) (h : w.heap[g]? = some (rdO n L da dcap c p)) (hn : n ≤ L) (hL : L ≤ 9223372036854775807) :
    Calls Try.prog 34 #[.pointer (some ⟨g, 0, none⟩)] w (Gives (.int .i64 ((L : Int) - n)) w) := by
  have c0 := fun s : HeldW w [] => (rd_cellsW h s).1
  have c1 := fun s : HeldW w [] => (rd_cellsW h s).2.1
  obtain ⟨H⟩ : Nonempty (HeldW w []) := ⟨HeldW.start w⟩
  clear h
  go_enter Try.func34, Try.ntmps34
  go_wp2
  refine wp_region_class w [] (by kernel_rfl) (by kernel_rfl) (Below.refl _ _) (by simp) (fun hne => ?_)
  clear H
  repeat (go_big_quiet_step (fail))
  refine wpQuiet_nil ?_
  rintro _ ⟨s, rfl⟩
  clear hne c0 c1
  go_wp2
  go_ret
  exact ⟨rfl, s.below⟩

/-- Whether a reader is ready. -/
theorem ready_nil (w : World) : Calls Try.prog 35 #[.pointer none] w (Gives (.bool false) w) := by
  go_enter Try.func35, Try.ntmps35
  go_wp2
  go_ret
  exact ⟨rfl, Below.refl _ _⟩
theorem ready_any (g n L dcap : Nat) (da : Option Addr) (c p : Int) (w : World) (h : w.heap[g]? = some (rdO n L da dcap c p)) :
    Calls Try.prog 35 #[.pointer (some ⟨g, 0, none⟩)] w (fun e w' => e = .returned (.bool (decide (c = 0))) ∧ w' = w) := by
  have c3 := (rd_cells h).2.2.2.1
  clear h
  by_cases hc : c = 0
  · subst hc
    go_enter Try.func35, Try.ntmps35
    go_wp2
    go_ret
    exact ⟨rfl, rfl⟩
  · have hd : decide (c = 0) = false := decide_eq_false hc
    rw [hd]
    have hb : (c == 0) = false := by simpa using hc
    go_enter Try.func35, Try.ntmps35
    go_wp2
    go_ret
    exact ⟨rfl, rfl⟩

theorem at_nil (w : World) : Calls Try.prog 14 #[.pointer none] w (fun e w' => e = .returned (.int .i64 0) ∧ w' = w) := by
  go_enter Try.func14, Try.ntmps14
  go_wp2
  go_ret
  exact ⟨rfl, rfl⟩
theorem at_any (g n L dcap : Nat) (da : Option Addr) (c p : Int) (w : World) (h : w.heap[g]? = some (rdO n L da dcap c p)) :
    Calls Try.prog 14 #[.pointer (some ⟨g, 0, none⟩)] w (fun e w' => e = .returned (.int .i64 n) ∧ w' = w) := by
  have c0 := (rd_cells h).1
  clear h
  go_enter Try.func14, Try.ntmps14
  go_wp2
  go_ret
  exact ⟨rfl, rfl⟩

theorem rest_nil (w : World) : Calls Try.prog 12 #[.pointer none] w (fun e w' => e = .returned (.int .i64 0) ∧ w' = w) := by
  go_enter Try.func12, Try.ntmps12
  go_wp2
  go_ret
  exact ⟨rfl, rfl⟩
theorem rest_any (g n L dcap : Nat) (da : Option Addr) (c p : Int) (w : World) (h : w.heap[g]? = some (rdO n L da dcap c p)) (hn : n ≤ L) (hL : L ≤ 9223372036854775807) :
    Calls Try.prog 12 #[.pointer (some ⟨g, 0, none⟩)] w (Gives (.int .i64 ((L : Int) - n)) w) := by
  have hl := left_any g n L dcap da c p w h hn hL
  clear h
  go_enter Try.func12, Try.ntmps12
  go_wp2_with (refine (HeldW.call (s := HeldW.start w) hl).mono ?_; rintro e _ ⟨rfl, s1, rfl⟩)
  go_ret
  exact ⟨rfl, s1.below⟩

/-- The fault. -/
theorem fault_nil (w : World) : Calls Try.prog 15 #[.pointer none] w (Gives (.agg #[.int .i64 1, .int .i64 0]) w) := by
  go_enter Try.func15, Try.ntmps15
  go_wp2
  refine bodyPost_ret (v := .agg #[.int .i64 1, .int .i64 0]) (by simp [results, Try.results15, go_sem]) rfl ⟨rfl, ?_⟩
  exact (Below.refl _ w).alloc (Nat.le_refl _) _
theorem fault_any (g n L dcap : Nat) (da : Option Addr) (c p : Int) (w : World) (h : w.heap[g]? = some (rdO n L da dcap c p)) :
    Calls Try.prog 15 #[.pointer (some ⟨g, 0, none⟩)] w (Gives (.agg #[.int .i64 c, .int .i64 p]) w) := by
  have c3 := (rd_cells h).2.2.2.1
  have c4 := (rd_cells h).2.2.2.2
  have hlt : g < w.heap.size := (Array.getElem?_eq_some_iff.1 h).1
  have hne : ¬ w.heap.size = g := by omega
  have d3 : (w.alloc (.cells #[.int .i64 0, .int .i64 0] 30)).cell? ⟨g, 3, none⟩ = some (.int .i64 c) := by rw [cell_of (heap_old h _)]; rfl
  have d4 : (w.alloc (.cells #[.int .i64 0, .int .i64 0] 30)).cell? ⟨g, 4, none⟩ = some (.int .i64 p) := by rw [cell_of (heap_old h _)]; rfl
  clear h
  go_enter Try.func15, Try.ntmps15
  go_wp2
  refine bodyPost_ret (v := .agg #[.int .i64 c, .int .i64 p]) (by simp [results, Try.results15, go_sem]) rfl ⟨rfl, ?_⟩
  exact (Below.refl _ w).alloc (Nat.le_refl _) _

/-- What a store into a reader makes of it. -/
theorem rd_set0 {w : World} {g n L dcap : Nat} {da : Option Addr} {c p : Int} (h : w.heap[g]? = some (rdO n L da dcap c p)) (m : Nat) : (w.setCell ⟨g, 0, none⟩ (.int .i64 m)).heap[g]? = some (rdO m L da dcap c p) := by
  rw [heap_setCell_same _ _ _ _ _ _ h]; rfl
theorem rd_set34 {w : World} {g n L dcap : Nat} {da : Option Addr} {c p : Int} (h : w.heap[g]? = some (rdO n L da dcap c p)) (c' p' : Int) : ((w.setCell ⟨g, 3, none⟩ (.int .i64 c')).setCell ⟨g, 4, none⟩ (.int .i64 p')).heap[g]? = some (rdO n L da dcap c' p') := by
  rw [heap_setCell_same _ _ _ _ _ _ (heap_setCell_same _ _ _ _ _ _ h)]; rfl

/-- It returns v; of what was there only block h has changed: it holds o now. -/
theorem gives_puts {P : Program} {f : FuncId} {args : Array Value} {v : Value} {w : World} {g : Nat} {o : Obj} (ho : w.heap[g]? = some o) (h : Calls P f args w (Gives v w)) : Calls P f args w (Puts g o v w) :=
  h.mono fun _ _ ⟨he, hb⟩ => ⟨he, But.of_below hb, heap_below ho hb⟩

theorem fail_nil (code at_ : Int) (w : World) : Calls Try.prog 13 #[.pointer none, .int .i64 code, .int .i64 at_] w (Gives (.tuple #[]) w) := by
  have hr := ready_nil w
  go_enter Try.func13, Try.ntmps13
  go_wp2_with (refine (HeldW.call (s := HeldW.start w) hr).mono ?_; rintro e _ ⟨rfl, s1, rfl⟩)
  go_end0
  exact ⟨rfl, s1.below⟩
theorem fail_no (g n L dcap : Nat) (da : Option Addr) (c p code at_ : Int) (w : World) (h : w.heap[g]? = some (rdO n L da dcap c p)) (hc : c ≠ 0) :
    Calls Try.prog 13 #[.pointer (some ⟨g, 0, none⟩), .int .i64 code, .int .i64 at_] w (Gives (.tuple #[]) w) := by
  have hr := ready_any g n L dcap da c p w h
  rw [decide_eq_false hc] at hr
  clear h hc
  go_enter Try.func13, Try.ntmps13
  go_wp2_with (refine (HeldW.call (s := HeldW.start w) (gives_same hr)).mono ?_; rintro e _ ⟨rfl, s1, rfl⟩)
  go_end0
  exact ⟨rfl, s1.below⟩
theorem fail_any (g n L dcap : Nat) (da : Option Addr) (p code at_ : Int) (w : World) (h : w.heap[g]? = some (rdO n L da dcap 0 p)) (hc : code ≠ 0) :
    Calls Try.prog 13 #[.pointer (some ⟨g, 0, none⟩), .int .i64 code, .int .i64 at_] w (Puts g (rdO n L da dcap code at_) (.tuple #[]) w) := by
  have hr := ready_any g n L dcap da 0 p w h
  rw [decide_eq_true rfl] at hr
  have hb : (code != 0) = true := by simpa using hc
  obtain ⟨c0, c1, c2, c3, c4⟩ := rd_cells h
  have f3 := free_of h 3
  have f4 := free_of h 4
  have hfin : Hid (Puts g (rdO n L da dcap code at_) (.tuple #[]) w (.returned (.tuple #[])) ((w.setCell ⟨g, 3, none⟩ (.int .i64 code)).setCell ⟨g, 4, none⟩ (.int .i64 at_))) :=
    Lib.hid ⟨rfl, ((But.refl g _ w).store 3 _).store 4 _, rd_set34 h _ _⟩
  clear h hc
  go_enter Try.func13, Try.ntmps13
  go_wp2_with (refine hr.mono ?_; rintro e _ ⟨rfl, rfl⟩)
  go_end0
  exact hfin.out

theorem pass_any (g n L dcap k : Nat) (da : Option Addr) (c p : Int) (w : World) (h : w.heap[g]? = some (rdO n L da dcap c p)) (hn : n + k ≤ L) (hL : L ≤ 9223372036854775807) :
    Calls Try.prog 55 #[.pointer (some ⟨g, 0, none⟩), .int .i64 k] w (fun e w' => e = .returned (.tuple #[]) ∧ w' = w.setCell ⟨g, 0, none⟩ (.int .i64 (n + k : Nat))) := by
  obtain ⟨c0, -⟩ := rd_cells h
  have f0 := free_of h 0
  have hs : ((n + k : Nat) : Int) = (n : Int) + (k : Int) := by omega
  clear h
  rw [hs]
  clear hs
  go_enter Try.func55, Try.ntmps55
  go_wp2
  go_end0
  exact ⟨rfl, rfl⟩

theorem read_nil (k : Int) (u : Value) (w : World) : Calls Try.prog 44 #[.pointer none, .int .i64 k, u] w (Gives (.tuple #[]) w) := by
  have hr := ready_nil w
  go_enter Try.func44, Try.ntmps44
  go_wp2_with (refine (HeldW.call (s := HeldW.start w) hr).mono ?_; rintro e _ ⟨rfl, s1, rfl⟩)
  go_end0
  exact ⟨rfl, s1.below⟩
theorem read_not (g n L dcap : Nat) (da : Option Addr) (c p k : Int) (u : Value) (w : World) (h : w.heap[g]? = some (rdO n L da dcap c p)) (hc : c ≠ 0) :
    Calls Try.prog 44 #[.pointer (some ⟨g, 0, none⟩), .int .i64 k, u] w (Gives (.tuple #[]) w) := by
  have hr := ready_any g n L dcap da c p w h
  rw [decide_eq_false hc] at hr
  clear h hc
  go_enter Try.func44, Try.ntmps44
  go_wp2_with (refine (HeldW.call (s := HeldW.start w) (gives_same hr)).mono ?_; rintro e _ ⟨rfl, s1, rfl⟩)
  go_end0
  exact ⟨rfl, s1.below⟩
theorem read_short (g n L dcap : Nat) (da : Option Addr) (p k : Int) (u : Value) (w : World) (h : w.heap[g]? = some (rdO n L da dcap 0 p)) (hn : n ≤ L) (hL : L ≤ 9223372036854775807) (hk : (L : Int) - n < k) :
    Calls Try.prog 44 #[.pointer (some ⟨g, 0, none⟩), .int .i64 k, u] w (Puts g (rdO n L da dcap 8 L) (.tuple #[]) w) := by
  have hr := ready_any g n L dcap da 0 p w h
  rw [decide_eq_true rfl] at hr
  have hl := fun s : HeldW w [] => left_any g n L dcap da 0 p s.w (heap_below h s.below) hn hL
  have c1 := fun s : HeldW w [] => (rd_cellsW h s).2.1
  have hf := fun s : HeldW w [] => fail_any g n L dcap da p 8 L s.w (heap_below h s.below) (by omega)
  have hd : decide ((L : Int) - n < k) = true := by simpa using hk
  clear h hk
  go_enter Try.func44, Try.ntmps44
  go_wp2_with fail
  refine (HeldW.call (s := HeldW.start w) (gives_same hr)).mono ?_
  rintro e _ ⟨rfl, s1, rfl⟩
  clear hr
  go_wp2_with fail
  refine (HeldW.call (s := s1) (hl s1)).mono ?_
  rintro e _ ⟨rfl, s2, rfl⟩
  clear hl
  go_wp2_with fail
  refine (hf s2).mono ?_
  rintro e w3 ⟨rfl, hb, ho⟩
  clear hf
  go_wp2
  go_end0
  exact ⟨rfl, (But.of_below s2.below).trans (hb.mono s2.below.size), ho⟩

/-- The next k bytes are handed to the function value, which leaves the reader as it is; then they are passed. -/
theorem read_ok (cb V g n L k dcap : Nat) (da A : Option Addr) (p : Int) (w : World) (Q : World → Prop) (eg : ∀ args w, (callFunc cb args).run Try.prog w = .ok (.enter cb args) w) (h : w.heap[g]? = some (rdO n L da dcap 0 p)) (hn : n + k ≤ L) (hL : L ≤ 9223372036854775807)
    (hsl : ∀ W, (Instr.slice 22 (.slice da L dcap) (some (.int .i64 (n : Int))) (some (.int .i64 ((n : Int) + (k : Int)))) none).run Try.prog W = .ok (.slice A k (dcap - n)) W)
    (hcb : ∀ s : HeldW w [], Calls Try.prog cb #[.slice A k (dcap - n), .pointer (some ⟨V, 0, none⟩)] s.w fun e w' => e = .returned (.tuple #[]) ∧ Q w') (hQ : ∀ w', Q w' → w'.heap[g]? = some (rdO n L da dcap 0 p)) :
    Calls Try.prog 44 #[.pointer (some ⟨g, 0, none⟩), .int .i64 k, .func (.func cb) #[] #[.pointer (some ⟨V, 0, none⟩)]] w (fun e w' => e = .returned (.tuple #[]) ∧ ∃ w1, Q w1 ∧ w' = w1.setCell ⟨g, 0, none⟩ (.int .i64 (n + k : Nat))) := by
  have hr := ready_any g n L dcap da 0 p w h
  rw [decide_eq_true rfl] at hr
  have hl := fun s : HeldW w [] => left_any g n L dcap da 0 p s.w (heap_below h s.below) (by omega) hL
  have c0 := fun s : HeldW w [] => (rd_cellsW h s).1
  have c2 := fun s : HeldW w [] => (rd_cellsW h s).2.2.1
  have hp := fun w1 (h : Q w1) => pass_any g n L dcap k da 0 p w1 (hQ w1 h) hn hL
  have hd : decide ((L : Int) - n < k) = false := by simp; omega
  have HP := Lib.hid hp
  have HCB := Lib.hid hcb
  clear h hQ hp hcb
  go_enter Try.func44, Try.ntmps44
  go_wp2_with fail
  refine (HeldW.call (s := HeldW.start w) (gives_same hr)).mono ?_
  rintro e _ ⟨rfl, s1, rfl⟩
  clear hr
  go_wp2_with fail
  refine (HeldW.call (s := s1) (hl s1)).mono ?_
  rintro e _ ⟨rfl, s2, rfl⟩
  clear hl
  go_wp2_with fail
  refine wp_region_class_tail 18 _ _ (by kernel_rfl) (by kernel_rfl) s2.below s2.blocks (fun hne => ?_)
  simp only [List.take_succ_cons, List.take_zero, List.drop_succ_cons, List.drop_zero]
  clear s1 s2
  repeat (go_big_quiet_step (fail))
  refine wpQuiet_nil ?_
  rintro _ ⟨s3, rfl⟩
  clear hne c0 c2 hsl
  go_wp2_with (go_at_fn cb; refine (HCB.out s3).mono ?_; rintro e w3 ⟨rfl, hq3⟩)
  refine (HP.out w3 hq3).mono ?_
  rintro e _ ⟨rfl, rfl⟩
  go_wp2
  go_end0
  exact ⟨rfl, w3, hq3, rfl⟩
end Go.Proofs.Ytefonhnidkfbgaa

/- Pieces of slices that came in: s[:n], s[n:]: the walk uses these equations where it does not know that n is within the capacity. -/
namespace Go.Proofs.Ytefonhnidkfbgaa
open Go.RowKit
set_option linter.unusedVariables false

theorem size_bytes (w : World) : (sizeOf (Try.prog.elem 66)).run Try.prog w = .ok 1 w := by kernel_rfl
theorem size_u8 (w : World) : (sizeOf (Try.prog.elem 22)).run Try.prog w = .ok 1 w := by kernel_rfl
/-- What came in as a slice of slices of bytes. -/
structure PartsOf (w : World) (pa : Option Addr) (ls : List (List Int)) (cap : Nat) : Prop where
  parts : PartsIn w pa ls
  le : ls.length ≤ cap
  capb : cap ≤ 9223372036854775807
  nil : pa = none → cap = 0

theorem PartsIn.below {w w' : World} {pa : Option Addr} {ls : List (List Int)} (h : PartsIn w pa ls) (hb : Below w.heap.size w w') : PartsIn w' pa ls := ⟨h.len, fun hp => by
  obtain ⟨b, o, rfl, hc⟩ := h.cells hp
  refine ⟨b, o, rfl, fun i hi => ?_⟩
  obtain ⟨a, cap, h1, h2⟩ := hc i hi
  exact ⟨a, cap, (hb.cell (p := ⟨b, o + i, none⟩) (World.block_lt_of_cell? _ _ h1)).trans h1, h2.below hb⟩⟩
theorem PartsOf.below {w w' : World} {pa : Option Addr} {ls : List (List Int)} {cap : Nat} (h : PartsOf w pa ls cap) (hb : Below w.heap.size w w') : PartsOf w' pa ls cap := ⟨h.parts.below hb, h.le, h.capb, h.nil⟩

theorem partOf_drop (ls : List (List Int)) (n i : Nat) : partOf (ls.drop n) i = partOf ls (n + i) := by unfold partOf; rw [List.getElem?_drop]
theorem partOf_take (ls : List (List Int)) {n i : Nat} (h : i < n) : partOf (ls.take n) i = partOf ls i := by unfold partOf; rw [List.getElem?_take, if_pos h]

theorem cutp_l {w : World} {pa : Option Addr} {ls : List (List Int)} {cap : Nat} (h : PartsOf w pa ls cap) (n : Nat) (hn : n ≤ ls.length) :
    ∃ A, (∀ W, (Instr.slice 66 (.slice pa ls.length cap) (some (.int .i64 (n : Int))) none none).run Try.prog W = .ok (.slice A (ls.length - n) (cap - n)) W) ∧ PartsIn w A (ls.drop n) := by
  refine ⟨if cap = n then pa else pa.map (·.add (n * 1)), fun W => ?_, by rw [List.length_drop]; have := h.parts.len; omega, fun hp => ?_⟩
  · rw [run_slice_l (P := Try.prog) W 66 pa ls.length cap (by kernel_rfl) .i64 (n : Int) (by omega) (by omega), size_bytes]
    simp only [Result.andThen_ok, sliced, Int.toNat_natCast]
  · rw [List.length_drop] at hp
    obtain ⟨b, o, rfl, hc⟩ := h.parts.cells (by omega)
    have := h.le
    rw [if_neg (by omega)]
    refine ⟨b, o + n, by simp [Addr.add_mid], fun i hi => ?_⟩
    rw [List.length_drop] at hi
    obtain ⟨a, c, h1, h2⟩ := hc (n + i) (by omega)
    rw [partOf_drop]
    exact ⟨a, c, by rw [Nat.add_assoc]; exact h1, h2⟩
theorem cutp_h {w : World} {pa : Option Addr} {ls : List (List Int)} {cap : Nat} (h : PartsOf w pa ls cap) (n : Nat) (hn : n ≤ ls.length) :
    ∃ A, (∀ W, (Instr.slice 66 (.slice pa ls.length cap) none (some (.int .i64 (n : Int))) none).run Try.prog W = .ok (.slice A n cap) W) ∧ PartsIn w A (ls.take n) := by
  refine ⟨if cap = 0 then pa else pa.map (·.add (0 * 1)), fun W => ?_, by rw [List.length_take]; have := h.parts.len; omega, fun hp => ?_⟩
  · rw [run_slice_h (P := Try.prog) W 66 pa ls.length cap (by kernel_rfl) .i64 (n : Int) (by omega) (by have := h.le; omega), size_bytes]
    simp only [Result.andThen_ok, sliced, Int.toNat_natCast, Nat.sub_zero]
  · rw [List.length_take] at hp
    obtain ⟨b, o, rfl, hc⟩ := h.parts.cells (by omega)
    have := h.le
    rw [if_neg (by omega)]
    refine ⟨b, o, by simp [Addr.add_mid], fun i hi => ?_⟩
    rw [List.length_take] at hi
    obtain ⟨a, c, h1, h2⟩ := hc i (by omega)
    rw [partOf_take ls (by omega)]
    exact ⟨a, c, h1, h2⟩
theorem cutb_h {w : World} {a : Option Addr} {l : List Int} {cap : Nat} (h : BytesIn w a l cap) (n : Nat) (hn : n ≤ l.length) :
    ∃ A, (∀ W, (Instr.slice 22 (.slice a l.length cap) none (some (.int .i64 (n : Int))) none).run Try.prog W = .ok (.slice A n cap) W) ∧ BytesIn w A (l.take n) cap := by
  refine ⟨if cap = 0 then a else a.map (·.add (0 * 1)), fun W => ?_, by rw [List.length_take]; have := h.len; omega, h.capb, fun hp => ?_, fun h0 => ?_⟩
  · rw [run_slice_h (P := Try.prog) W 22 a l.length cap (by kernel_rfl) .i64 (n : Int) (by omega) (by have := h.len; omega), size_u8]
    simp only [Result.andThen_ok, sliced, Int.toNat_natCast, Nat.sub_zero]
  · rw [List.length_take] at hp
    obtain ⟨b, o, rfl, hc⟩ := h.cells (by omega)
    have := h.len
    rw [if_neg (by omega)]
    refine ⟨b, o, by simp [Addr.add_mid], fun i hi => ?_⟩
    rw [List.length_take] at hi
    rw [hc i (by omega), List.getElem?_take, if_pos (by omega)]
  · by_cases hc : cap = 0
    · exact hc
    · rw [if_neg hc] at h0
      cases a with
      | none => exact h.nil rfl
      | some ad => cases h0
end Go.Proofs.Ytefonhnidkfbgaa
