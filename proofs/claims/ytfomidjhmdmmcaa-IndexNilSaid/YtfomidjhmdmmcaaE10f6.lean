import Derived.Deep.Onto
import Derived.Test.YtfomidjhmdmmcaaE10f3
import Derived.Test.YtfomidjhmdmmcaaE10f5
import Derived.LoopTactic
import Derived.BigQuiet
import Derived.Deep.QuietTactic
import Derived.Great.BuildSlice
import Derived.Shelf.Abstract
/- Several rows that the call itself made, apart from each other: some of them grow, some are written. -/
namespace Go.Proofs.Ytfomidjhmdmmcaa
open Go.RowKit
set_option linter.unusedVariables false

/-- What an element type must be, of so many cells and of however many bytes. -/
structure ElemS (P : Program) (t e : TypeId) (size : Nat) where
  i : TypeInfo
  z : Value
  bytes : Nat
  ht : P.underlying t = some (.slice e)
  hi : P.info? e = some i
  hz : i.zero = some z
  hsize : i.size = size
  hby : i.bytes = bytes
  hzs : z.cells.size = size
  hsz : 0 < size
abbrev ElemW (P : Program) (t e : TypeId) := ElemS P t e 1
theorem perm_third {α : Type} (a b c : α) (l : List α) : (c :: a :: b :: l).Perm (a :: b :: c :: l) := (List.Perm.swap _ _ _).trans ((List.Perm.swap _ _ _).cons _)
theorem perm_snoc {α : Type} (a b e x : α) (l : List α) : (b :: a :: x :: (l ++ [e])).Perm (a :: b :: e :: x :: l) :=
  ((((List.perm_append_singleton e l).cons x).cons a).cons b).trans ((List.Perm.swap _ _ _).trans (((List.Perm.swap _ _ _).cons _).cons _))

/-- A row that the call itself made: n elements of so many cells, behind the slice v. -/
structure Row where
  e : TypeId
  size : Nat
  v : Value
  n : Nat
  xs : List Value
def Row.At (r : Row) (base : Nat) (w : World) : Prop := w.ownsRow base r.e r.size r.v r.n r.xs
def ApartV (u v : Value) : Prop := u.ownBlock = none ∨ u.ownBlock ≠ v.ownBlock
theorem ApartV.symm {u v : Value} (h : ApartV u v) : ApartV v u := by
  unfold ApartV at *
  rcases h with h | h
  · rw [h]
    cases v.ownBlock with
    | none => exact .inl rfl
    | some g => exact .inr (fun h => by cases h)
  · exact .inr (Ne.symm h)

/-- A world that holds such rows; below w0's heap nothing has changed. -/
structure Piles (w0 : World) (rs : List Row) where
  w : World
  below : Below w0.heap.size w0 w
  rows : ∀ r ∈ rs, r.At w0.heap.size w
  apart : (rs.map (·.v)).Pairwise ApartV

theorem own_later {w w' : World} {base : Nat} {e : TypeId} {size : Nat} {v : Value} {n : Nat} {xs : List Value} (h : w.ownsRow base e size v n xs) (hb : Below w.heap.size w w') : w'.ownsRow base e size v n xs :=
  ⟨h.1, h.2.imp id fun ⟨g, cap, cur, e1, e2, e3, e4⟩ => ⟨g, cap, cur, e1, e2, (hb.block _ (Array.getElem?_eq_some_iff.1 e3).1).trans e3, e4⟩⟩

section
variable {w0 : World} {rs : List Row}
theorem Piles.later (S : Piles w0 rs) {w' : World} (h : Below S.w.heap.size S.w w') : ∃ S' : Piles w0 rs, w' = S'.w :=
  ⟨⟨w', S.below.trans (h.mono S.below.size), fun r hr => own_later (S.rows r hr) h, S.apart⟩, rfl⟩
theorem Piles.drewC (S : Piles w0 rs) : ∃ S' : Piles w0 rs, S.w.drew = S'.w := S.later (Below.refl _ _).drew
theorem Piles.call {P : Program} {f : FuncId} {args : Array Value} {u : Value} {S : Piles w0 rs} (h : Calls P f args S.w (Gives u S.w)) :
    Calls P f args S.w fun en w'' => en = .returned u ∧ ∃ S' : Piles w0 rs, w'' = S'.w :=
  h.mono fun _ w'' ⟨he, hb⟩ => ⟨he, S.later hb⟩
theorem Piles.perm (S : Piles w0 rs) {rs' : List Row} (h : rs'.Perm rs) : ∃ S' : Piles w0 rs', S.w = S'.w :=
  ⟨⟨S.w, S.below, fun r hr => S.rows r (h.mem_iff.1 hr), (List.Perm.pairwise_iff (fun {a b} h => ApartV.symm h) (h.map _)).2 S.apart⟩, rfl⟩
theorem Piles.sub (S : Piles w0 rs) {rs' : List Row} (h : rs'.Sublist rs) : ∃ S' : Piles w0 rs', S.w = S'.w :=
  ⟨⟨S.w, S.below, fun r hr => S.rows r (h.subset hr), S.apart.sublist (h.map _)⟩, rfl⟩
/-- One more row, in a new block. -/
theorem Piles.fresh (S : Piles w0 rs) {w' : World} (h : Below S.w.heap.size S.w w') (r : Row) (hr : r.At w0.heap.size w') (hb : ∀ g, r.v.ownBlock = some g → S.w.heap.size ≤ g) : ∃ S' : Piles w0 (r :: rs), w' = S'.w := by
  refine ⟨⟨w', S.below.trans (h.mono S.below.size), fun q hq => ?_, ?_⟩, rfl⟩
  · rcases List.mem_cons.1 hq with rfl | hq
    · exact hr
    · exact own_later (S.rows q hq) h
  · rw [List.map_cons, List.pairwise_cons]
    refine ⟨fun u hu => ?_, S.apart⟩
    obtain ⟨q, hq, rfl⟩ := List.mem_map.1 hu
    unfold ApartV
    cases hg : r.v.ownBlock with
    | none => exact .inl rfl
    | some g =>
      right
      intro he
      have h1 := hb g hg
      have h2 := ((S.rows q hq).lt g he.symm).2
      omega
/-- One more row, apart from the others. -/
theorem Piles.add (S : Piles w0 rs) (r : Row) (hr : r.At w0.heap.size S.w) (hap : ∀ q ∈ rs, ApartV r.v q.v) : ∃ S' : Piles w0 (r :: rs), S.w = S'.w :=
  ⟨⟨S.w, S.below, fun q hq => by rcases List.mem_cons.1 hq with rfl | hq; exact hr; exact S.rows q hq, by
    rw [List.map_cons, List.pairwise_cons]
    exact ⟨fun u hu => by obtain ⟨q, hq, rfl⟩ := List.mem_map.1 hu; exact hap q hq, S.apart⟩⟩, rfl⟩
theorem Piles.ltAll (S : Piles w0 rs) : ∀ q ∈ rs, ∀ g, q.v.ownBlock = some g → g < S.w.heap.size := fun q hq g hg => ((S.rows q hq).lt g hg).2
theorem box_at {w : World} {base b : Nat} {t : TypeId} {cs : Array Value} {size : Nat} (hb : base ≤ b) (h : w.heap[b]? = some (.cells cs t (0, 0))) (hs : cs.size = size) : Row.At ⟨t, size, .slice (some ⟨b, 0, none⟩) 1 1, 1, cs.toList⟩ base w := by
  refine ⟨by simp [hs], .inr ⟨b, 1, cs, rfl, hb, h, Nat.le_refl _, by unfold maxLen; omega, by simp [hs], ?_⟩⟩
  rw [List.take_of_length_le]
  simp [hs]
/-- A block of its own, as a row. -/
theorem Piles.box (S : Piles w0 rs) (t : TypeId) (cs : Array Value) (size : Nat) (hs : cs.size = size) : ∃ S' : Piles w0 (⟨t, size, .slice (some ⟨S.w.heap.size, 0, none⟩) 1 1, 1, cs.toList⟩ :: rs), S.w.alloc (.cells cs t) = S'.w := by
  refine S.fresh ((Below.refl _ _).alloc (Nat.le_refl _) _) _ ?_ (fun g hg => by simp [Value.ownBlock] at hg; omega)
  refine ⟨by simp [hs], .inr ⟨S.w.heap.size, 1, cs, rfl, S.below.size, World.alloc_heap_new _ _, Nat.le_refl _, by unfold maxLen; omega, by simp [hs], ?_⟩⟩
  rw [List.take_of_length_le]
  simp [hs]
theorem Piles.empty (S : Piles w0 rs) (e : TypeId) (size : Nat) : ∃ S' : Piles w0 (⟨e, size, .slice (some ⟨S.w.heap.size, 0, none⟩) 0 0, 0, []⟩ :: rs), S.w.alloc (.cells #[] e) = S'.w := by
  refine S.fresh ((Below.refl _ _).alloc (Nat.le_refl _) _) _ ?_ (fun g hg => by simp [Value.ownBlock] at hg; omega)
  exact World.ownsRow_made (base := w0.heap.size) (e := e) (size := size) S.w #[] 0 S.below.size (by unfold maxLen; omega) (by simp)
end

/-- The first box; a row that is nil. -/
theorem Piles.start (w : World) (t : TypeId) (cs : Array Value) (size : Nat) (hs : cs.size = size) : ∃ S : Piles w [⟨t, size, .slice (some ⟨w.heap.size, 0, none⟩) 1 1, 1, cs.toList⟩], w.alloc (.cells cs t) = S.w :=
  (⟨w, Below.refl _ _, by simp, List.Pairwise.nil⟩ : Piles w []).box t cs size hs
theorem Piles.nilRow {w0 : World} {rs : List Row} (S : Piles w0 rs) (e : TypeId) : ∃ S' : Piles w0 (⟨e, 1, .slice none 0 0, 0, []⟩ :: rs), S.w = S'.w :=
  S.fresh (Below.refl _ _) _ (World.ownsRow_nil S.w w0.heap.size e 1) (fun g hg => by cases hg)

/-- The same rows, in other words and in another order. -/
theorem Piles.conv {w0 : World} {rs : List Row} (S : Piles w0 rs) (rs1 : List Row) (h1 : rs = rs1) {rs2 : List Row} (h2 : rs2.Perm rs1) : ∃ S' : Piles w0 rs2, S.w = S'.w := by subst h1; exact S.perm h2

/-- Where an append puts its row. -/
theorem append_block {P : Program} {t e : TypeId} {size : Nat} (E : ElemS P t e size) {w w' : World} {base n m c : Nat} {v v' : Value} {xs news : List Value} (ty : TypeId) (hown : w.ownsRow base e size v n xs) (ad : Addr) (hl : news.length = m * size) (hnews : ∀ j u, news[j]? = some u → w.cell? (ad.add j) = some u) (h1 : ∀ u ∈ news, u.oneCell' = true)
    (h63 : n + m ≤ maxLen) (hbytes : (n + m) * E.bytes ≤ 140737488355328) (hrun : (Builtin.append_ #[t, t] ty #[v, .slice (some ad) m c]).run P w = .ok v' w') (hiff : v' = .slice none 0 0 ↔ v = .slice none 0 0 ∧ m = 0) : v'.ownBlock = v.ownBlock ∨ v'.ownBlock = some w.heap.size := by
  have hsmall : n + m ≤ 9223372036854775807 := by simp only [maxLen] at h63; omega
  have hl1 : news.length = m * E.i.size := by rw [E.hsize, hl]
  rcases hown.2 with ⟨rfl, rfl⟩ | ⟨g, cap, cur, rfl, hbg, hg, hnc, hcm, hcs, htake⟩
  · by_cases hm : m = 0
    · rw [hiff.2 ⟨rfl, hm⟩]
      exact .inl rfl
    · have hr := run_append_nil (P := P) w t ty e E.i E.z E.ht E.hi E.hz ad m c news hl1 hnews (by omega) (by omega) (by rw [E.hby]; simp only [Nat.zero_add] at hbytes; omega)
      rw [hr] at hrun
      injection hrun with h2 h3
      subst h2
      exact .inr rfl
  · by_cases hroom : n + m ≤ cap
    · have hr := run_append_room (P := P) w t ty e E.i E.ht E.hi g n cap cur hg ad m c news hl1 hnews h1 hroom (by rw [hl1, hcs, E.hsize, ← Nat.add_mul]; exact Nat.mul_le_mul_right _ hroom)
      rw [hr] at hrun
      injection hrun with h2 h3
      subst h2
      exact .inl rfl
    · have hr := run_append_grow (P := P) w t ty e E.i E.z E.ht E.hi E.hz ⟨g, 0, none⟩ n cap xs (by rw [E.hsize]; exact hown.1) (hown.cells (g := g) rfl) ad m c news hl1 hnews (by omega) (by omega) (growslice_fits (by omega) (by rw [E.hby]; exact hbytes))
      rw [hr] at hrun
      injection hrun with h2 h3
      subst h2
      exact .inr rfl

/-- An append to the first row. -/
theorem run_append_pilesS {P : Program} {t e : TypeId} {size : Nat} (E : ElemS P t e size) {w0 : World} {rs : List Row} {v : Value} {n : Nat} {xs : List Value} (S : Piles w0 (⟨e, size, v, n, xs⟩ :: rs)) (ty : TypeId) (sp : Option Addr) (m c : Nat) (news : List Value) (hl : news.length = m * size)
    (hnil : sp = none → m = 0 ∧ c = 0) (hnews : ∀ ad, sp = some ad → ∀ j u, news[j]? = some u → S.w.cell? (ad.add j) = some u) (h1 : ∀ u ∈ news, u.oneCell' = true) (h63 : n + m ≤ maxLen) (hbytes : (n + m) * E.bytes ≤ 140737488355328) :
    ∃ v' w', (Builtin.append_ #[t, t] ty #[v, .slice sp m c]).run P S.w = .ok v' w' ∧ ∃ S' : Piles w0 (⟨e, size, v', n + m, xs ++ news⟩ :: rs), w' = S'.w := by
  have hown : S.w.ownsRow w0.heap.size e size v n xs := S.rows _ List.mem_cons_self
  have hap := S.apart
  rw [List.map_cons, List.pairwise_cons] at hap
  cases sp with
  | none =>
    obtain ⟨rfl, rfl⟩ := hnil rfl
    obtain rfl := List.eq_nil_of_length_eq_zero (by rw [hl, Nat.zero_mul])
    refine ⟨v, S.w, run_append_owned_none (P := P) (w := S.w) w0.heap.size t ty e E.i size E.ht E.hi v n xs hown, ⟨S.w, S.below, fun r hr => ?_, ?_⟩, rfl⟩
    · rcases List.mem_cons.1 hr with rfl | hr
      · simpa [Row.At] using hown
      · exact S.rows r (List.mem_cons_of_mem _ hr)
    · exact S.apart
  | some ad =>
    obtain ⟨v', w', hrun, ho, hg, hiff⟩ := run_append_own (P := P) S.w w0.heap.size t ty e E.i E.z size E.bytes E.ht E.hi E.hz E.hsize E.hby E.hzs E.hsz v n xs hown ad m c news hl (hnews ad rfl) h1 h63 hbytes S.below.size
    have hblk := append_block E ty hown ad hl (hnews ad rfl) h1 h63 hbytes hrun hiff
    refine ⟨v', w', hrun, ⟨w', S.below.grown hg S.below.size (fun k hk => (hown.lt k hk).1), fun r hr => ?_, ?_⟩, rfl⟩
    · rcases List.mem_cons.1 hr with rfl | hr
      · exact ho
      · refine World.ownsRow.kept (S.rows r (List.mem_cons_of_mem _ hr)) hg ?_
        rcases hap.1 r.v (List.mem_map.2 ⟨r, hr, rfl⟩) with h | h
        · cases hr2 : r.v.ownBlock with
          | none => exact .inl rfl
          | some g => right; rw [h]; intro h3; cases h3
        · right; exact Ne.symm h
    · rw [List.map_cons, List.pairwise_cons]
      refine ⟨fun u hu => ?_, hap.2⟩
      rcases hblk with h | h
      · have := hap.1 u hu
        unfold ApartV at this ⊢
        rwa [h]
      · obtain ⟨q, hq, rfl⟩ := List.mem_map.1 hu
        unfold ApartV
        right
        rw [h]
        intro he
        have := ((S.rows q (List.mem_cons_of_mem _ hq)).lt _ he.symm).2
        omega

/-- The same for the walk. -/
theorem wpList_append_pilesS {P : Program} {t e : TypeId} {size : Nat} (E : ElemS P t e size) {w0 : World} {rs : List Row} {v : Value} {n : Nat} {xs : List Value} {ops : Array Oper} {rest : List Oper} {o : Oper} {a : Act} {Q : Exit → Act → World → Prop} (S : Piles w0 (⟨e, size, v, n, xs⟩ :: rs)) (sO xO : Operand)
    (hgd : o.guard = none) (ho : o.op = .call { callee := .builtin .append, args := #[sO, xO], argTypes := #[t, t] }) (hs : a.eval sO = v) (sp : Option Addr) (m c : Nat) (news : List Value) (hl : news.length = m * size) (hx : a.eval xO = .slice sp m c)
    (hnil : sp = none → m = 0 ∧ c = 0) (hnews : ∀ ad, sp = some ad → ∀ j u, news[j]? = some u → S.w.cell? (ad.add j) = some u) (h1 : ∀ u ∈ news, u.oneCell' = true) (h63 : n + m ≤ maxLen) (hbytes : (n + m) * E.bytes ≤ 140737488355328)
    (H : ∀ v' (S' : Piles w0 (⟨e, size, v', n + m, xs ++ news⟩ :: rs)), wpList P ops Q rest (a.put o.dst v') S'.w) : wpList P ops Q (o :: rest) a S.w := by
  obtain ⟨v', w', hrun, S', rfl⟩ := run_append_pilesS E S o.type sp m c news hl hnil hnews h1 h63 hbytes
  refine wpList_plain hgd fun K hK => ?_
  unfold Oper.wp
  simp [execOp, ho, resolve, invoke, builtin, hs, hx, hrun, Result.andThen]
  exact hK _ _ (H v' S')

/-- The same, of elements of one cell. -/
theorem wpList_append_piles {P : Program} {t e : TypeId} (E : ElemW P t e) {w0 : World} {rs : List Row} {v : Value} {n : Nat} {xs : List Value} {ops : Array Oper} {rest : List Oper} {o : Oper} {a : Act} {Q : Exit → Act → World → Prop} (S : Piles w0 (⟨e, 1, v, n, xs⟩ :: rs)) (sO xO : Operand)
    (hgd : o.guard = none) (ho : o.op = .call { callee := .builtin .append, args := #[sO, xO], argTypes := #[t, t] }) (hs : a.eval sO = v) (sp : Option Addr) (m c : Nat) (news : List Value) (hl : news.length = m) (hx : a.eval xO = .slice sp m c)
    (hnil : sp = none → m = 0 ∧ c = 0) (hnews : ∀ ad, sp = some ad → ∀ j u, news[j]? = some u → S.w.cell? (ad.add j) = some u) (h1 : ∀ u ∈ news, u.oneCell' = true) (h63 : n + m ≤ maxLen) (hbytes : (n + m) * E.bytes ≤ 140737488355328)
    (H : ∀ v' (S' : Piles w0 (⟨e, 1, v', n + m, xs ++ news⟩ :: rs)), wpList P ops Q rest (a.put o.dst v') S'.w) : wpList P ops Q (o :: rest) a S.w :=
  wpList_append_pilesS E S sO xO hgd ho hs sp m c news (by omega) hx hnil hnews h1 h63 hbytes H

/-- One element, in a new literal, is appended to the second row. -/
theorem wpList_append_one {P : Program} {t e : TypeId} (E : ElemW P t e) {w0 : World} {r1 : Row} {rs : List Row} {v : Value} {n : Nat} {xs : List Value} {ops : Array Oper} {rest : List Oper} {o : Oper} {a : Act} {Q : Exit → Act → World → Prop} (S : Piles w0 (r1 :: ⟨e, 1, v, n, xs⟩ :: rs)) (x : Value) (hx1 : x.oneCell' = true) (sO xO : Operand)
    (hgd : o.guard = none) (ho : o.op = .call { callee := .builtin .append, args := #[sO, xO], argTypes := #[t, t] }) (hs : a.eval sO = v) (hx : a.eval xO = .slice (some ⟨S.w.heap.size, 0, none⟩) 1 1) (h63 : n + 1 ≤ maxLen) (hbytes : (n + 1) * E.bytes ≤ 140737488355328)
    (H : ∀ v' (S' : Piles w0 (⟨e, 1, v', n + 1, xs ++ [x]⟩ :: r1 :: rs)), wpList P ops Q rest (a.put o.dst v') S'.w) : wpList P ops Q (o :: rest) a (S.w.alloc (.cells #[x] e)) := by
  obtain ⟨S3, hS3⟩ := S.later (w' := S.w.alloc (.cells #[x] e)) ((Below.refl _ _).alloc (Nat.le_refl _) _)
  obtain ⟨S4, hS4⟩ := S3.perm (rs' := ⟨e, 1, v, n, xs⟩ :: r1 :: rs) (List.Perm.swap _ _ _)
  have hc : S4.w.cell? ⟨S.w.heap.size, 0, none⟩ = some x := by rw [← hS4, ← hS3, cell_of (World.alloc_heap_new S.w _)]; rfl
  rw [hS3, hS4]
  refine wpList_append_piles E S4 sO xO hgd ho hs (some ⟨S.w.heap.size, 0, none⟩) 1 1 [x] rfl hx (fun h => by cases h) (fun ad had j u hu => ?_) (fun u hu => by simp at hu; subst hu; exact hx1) h63 hbytes H
  obtain rfl := Option.some.inj had
  cases j with
  | zero => simp at hu; subst hu; rw [Addr.add_mid]; exact hc
  | succ j => simp at hu

/-- A cell of a row is written. -/
theorem Piles.storeAt {w0 : World} {rs : List Row} (S : Piles w0 rs) (p : Nat) (r : Row) (hp : rs[p]? = some r) (g n c : Nat) (hv : r.v = .slice (some ⟨g, 0, none⟩) n c) (hn : r.n = n) (i : Nat) (hi : i < n * r.size) (u : Value) :
    ∃ S' : Piles w0 (rs.set p { r with xs := r.xs.set i u }), S.w.setCell ⟨g, i, none⟩ u = S'.w := by
  have hr := S.rows r (List.mem_of_getElem? hp)
  have hpl := (List.getElem?_eq_some_iff.1 hp).1
  have hgb : w0.heap.size ≤ g := (hr.lt g (by rw [hv]; rfl)).1
  refine ⟨⟨_, S.below.setCell (p := ⟨g, i, none⟩) hgb _, fun q hq => ?_, ?_⟩, rfl⟩
  · obtain ⟨j, hj⟩ := List.getElem?_of_mem hq
    rw [List.getElem?_set] at hj
    by_cases hpj : p = j
    · rw [if_pos hpj, if_pos (by omega)] at hj
      obtain rfl := Option.some.inj hj
      unfold Row.At at hr ⊢
      simp only
      rw [hv, hn] at hr ⊢
      rcases hr.2 with ⟨h0, _⟩ | ⟨g', cap, cur, e1, e2, e3, e4, e5, e6, e7⟩
      · cases h0
      · simp only [Value.slice.injEq, Option.some.injEq, Addr.mk.injEq, and_true, true_and] at e1
        obtain ⟨rfl, rfl⟩ := e1
        refine ⟨by rw [List.length_set]; exact hr.1, .inr ⟨g, c, cur.setIfInBounds i u, rfl, e2, heap_setCell_same _ _ _ _ _ _ e3, e4, e5, by simpa using e6, ?_⟩⟩
        rw [Array.toList_setIfInBounds, List.take_set, e7]
    · rw [if_neg hpj] at hj
      have hqm := List.mem_of_getElem? hj
      have hq0 := S.rows q hqm
      have hapt : ApartV r.v q.v := by
        have hh := List.pairwise_iff_getElem.1 S.apart
        have hjl := (List.getElem?_eq_some_iff.1 hj).1
        have e1 : (rs.map (·.v))[p]'(by simpa using hpl) = r.v := by
          rw [List.getElem_map]
          rw [(List.getElem?_eq_some_iff.1 hp).2]
        have e2 : (rs.map (·.v))[j]'(by simpa using hjl) = q.v := by
          rw [List.getElem_map]
          rw [(List.getElem?_eq_some_iff.1 hj).2]
        rcases Nat.lt_or_ge p j with h | h
        · have := hh p j (by simpa using hpl) (by simpa using hjl) h
          rwa [e1, e2] at this
        · have := hh j p (by simpa using hjl) (by simpa using hpl) (by omega)
          rw [e1, e2] at this
          exact this.symm
      refine ⟨hq0.1, hq0.2.imp id fun ⟨g', cap, cur, e1, e2, e3, e4⟩ => ⟨g', cap, cur, e1, e2, (Below.heap_setCell _ _ _ _ ?_).trans e3, e4⟩⟩
      simp only
      intro hgg
      rcases hapt with h | h
      · rw [hv] at h; cases h
      · rw [hv, e1] at h
        simp [Value.ownBlock] at h
        omega
  · rw [List.map_set]
    have : (rs.map (·.v)).set p r.v = rs.map (·.v) := by
      have h : (rs.map (·.v))[p]? = some r.v := by rw [List.getElem?_map, hp]; rfl
      apply List.ext_getElem?
      intro j
      rw [List.getElem?_set]
      by_cases hpj : p = j
      · subst hpj; rw [if_pos rfl, if_pos (by simpa using hpl), h]
      · rw [if_neg hpj]
    rw [this]
    exact S.apart

/-- A row of bytes can be read. -/
theorem Piles.bytes {w0 : World} {rs : List Row} (S : Piles w0 rs) {v : Value} {n : Nat} {l : List Int} (h : (⟨5, 1, v, n, l.map (Value.int .u8)⟩ : Row) ∈ rs) : l.length = n ∧ ∃ (a : Option Addr) (cap : Nat), v = .slice a n cap ∧ BytesIn S.w a l cap := by
  have hr := S.rows _ h
  have hl : l.length = n := by have := hr.1; simp at this; omega
  subst hl
  obtain ⟨a, cap, h1, h2⟩ := (⟨S.w, S.below, by rw [List.length_map]; exact hr⟩ : OwnW w0 5 v (l.map (Value.int .u8))).bytes
  exact ⟨rfl, a, cap, h1, h2⟩
/-- What a row looks like. -/
theorem Piles.view {w0 : World} {rs : List Row} (S : Piles w0 rs) {r : Row} (h : r ∈ rs) : ∃ (a : Option Addr) (cap : Nat), r.v = .slice a r.n cap ∧ (a = none → cap = 0) ∧ r.n ≤ cap ∧ cap ≤ 9223372036854775807 ∧ (0 < r.n → ∃ g, a = some ⟨g, 0, none⟩ ∧ ∀ (j : Nat) (u : Value), r.xs[j]? = some u → S.w.cell? ⟨g, j, none⟩ = some u ∧ S.w.frozen? ⟨g, j, none⟩ = false) := by
  have hr := S.rows _ h
  rcases hr.2 with ⟨h1, h0⟩ | ⟨g, cap, cur, hv, hg, hb, hc, hm, hs, ht⟩
  · exact ⟨none, 0, by rw [h1, h0], fun _ => rfl, by omega, by omega, fun h => by omega⟩
  · refine ⟨_, cap, hv, (fun h => by cases h), hc, by unfold maxLen at hm; omega, fun _ => ⟨g, rfl, fun j u hu => ⟨?_, free_of hb j⟩⟩⟩
    have := World.ownsRow.cells hr (g := g) (by rw [hv]; rfl) j u hu
    rwa [Addr.add_mid, Nat.zero_add] at this

/-- The cells of a box. -/
theorem Piles.boxCells {w0 : World} {rs : List Row} (S : Piles w0 rs) {t : TypeId} {size b : Nat} {xs : List Value} (h : (⟨t, size, .slice (some ⟨b, 0, none⟩) 1 1, 1, xs⟩ : Row) ∈ rs) : b < S.w.heap.size ∧ ∀ (j : Nat) (u : Value), xs[j]? = some u → S.w.cell? ⟨b, j, none⟩ = some u := by
  have hr := S.rows _ h
  refine ⟨(hr.lt b rfl).2, fun j u hu => ?_⟩
  have := World.ownsRow.cells hr (g := b) rfl j u hu
  rwa [Addr.add_mid, Nat.zero_add] at this

/-- The five cells of a box are written. -/
theorem Piles.put5 {w0 : World} {rs : List Row} (S : Piles w0 rs) (p : Nat) {t : TypeId} {b : Nat} {z0 z1 z2 z3 z4 : Value} (hp : rs[p]? = some ⟨t, 5, .slice (some ⟨b, 0, none⟩) 1 1, 1, [z0, z1, z2, z3, z4]⟩) (u0 u1 u2 u3 u4 : Value) :
    ∃ S' : Piles w0 (rs.set p ⟨t, 5, .slice (some ⟨b, 0, none⟩) 1 1, 1, [u0, u1, u2, u3, u4]⟩), ((((S.w.setCell ⟨b, 0, none⟩ u0).setCell ⟨b, 1, none⟩ u1).setCell ⟨b, 2, none⟩ u2).setCell ⟨b, 3, none⟩ u3).setCell ⟨b, 4, none⟩ u4 = S'.w := by
  have hpl := (List.getElem?_eq_some_iff.1 hp).1
  have hs : ∀ (r : Row) (l : List Row), l.length = rs.length → (l.set p r)[p]? = some r := fun r l hl => by rw [List.getElem?_set]; simp [hl, hpl]
  obtain ⟨S1, h1⟩ := S.storeAt p _ hp b 1 1 rfl rfl 0 (by simp) u0
  obtain ⟨S2, h2⟩ := S1.storeAt p _ (hs _ _ rfl) b 1 1 rfl rfl 1 (by simp) u1
  obtain ⟨S3, h3⟩ := S2.storeAt p _ (hs _ _ (by simp)) b 1 1 rfl rfl 2 (by simp) u2
  obtain ⟨S4, h4⟩ := S3.storeAt p _ (hs _ _ (by simp)) b 1 1 rfl rfl 3 (by simp) u3
  obtain ⟨S5, h5⟩ := S4.storeAt p _ (hs _ _ (by simp)) b 1 1 rfl rfl 4 (by simp) u4
  obtain ⟨S6, h6⟩ := S5.conv (rs.set p ⟨t, 5, .slice (some ⟨b, 0, none⟩) 1 1, 1, [u0, u1, u2, u3, u4]⟩) (by simp) (List.Perm.refl _)
  exact ⟨S6, by rw [h1, h2, h3, h4, h5, h6]⟩
end Go.Proofs.Ytfomidjhmdmmcaa

/- Readers of package wire: their blocks; left, ready, At, Rest, Fault, Fail, pass. -/
namespace Go.Proofs.Ytfomidjhmdmmcaa
open Go.RowKit
set_option linter.unusedVariables false
set_option linter.unusedSimpArgs false

/-- It returns v; of what was there only block h has changed: it holds o now. -/
theorem gives_puts {P : Program} {f : FuncId} {args : Array Value} {v : Value} {w : World} {g : Nat} {o : Obj} (ho : w.heap[g]? = some o) (h : Calls P f args w (Gives v w)) : Calls P f args w (Puts g o v w) :=
  h.mono fun _ _ ⟨he, hb⟩ => ⟨he, But.of_below hb, heap_below ho hb⟩

end Go.Proofs.Ytfomidjhmdmmcaa

/- Pieces of slices that came in: s[:n], s[n:]: the walk uses these equations where it does not know that n is within the capacity. -/
namespace Go.Proofs.Ytfomidjhmdmmcaa
open Go.RowKit
set_option linter.unusedVariables false

/-- What came in as a slice of slices of bytes. -/
structure PartsOf (w : World) (pa : Option Addr) (ls : List (List Int)) (cap : Nat) : Prop where
  parts : PartsIn w pa ls
  le : ls.length ≤ cap
  capb : cap ≤ 9223372036854775807
  nil : pa = none → cap = 0

theorem PartsIn.below {w w' : World} {pa : Option Addr} {ls : List (List Int)} (h : PartsIn w pa ls) (hb : Below w.heap.size w w') : PartsIn w' pa ls := ⟨h.len, fun hp => by
  obtain ⟨b, o, rfl, hc⟩ := h.cells hp
  refine ⟨b, o, rfl, fun i hi => ?_⟩
  obtain ⟨a, cap, h1, h2⟩ := hc i hi
  exact ⟨a, cap, (hb.cell (p := ⟨b, o + i, none⟩) (World.block_lt_of_cell? _ _ h1)).trans h1, h2.below hb⟩⟩
theorem PartsOf.below {w w' : World} {pa : Option Addr} {ls : List (List Int)} {cap : Nat} (h : PartsOf w pa ls cap) (hb : Below w.heap.size w w') : PartsOf w' pa ls cap := ⟨h.parts.below hb, h.le, h.capb, h.nil⟩

theorem partOf_drop (ls : List (List Int)) (n i : Nat) : partOf (ls.drop n) i = partOf ls (n + i) := by unfold partOf; rw [List.getElem?_drop]
theorem partOf_take (ls : List (List Int)) {n i : Nat} (h : i < n) : partOf (ls.take n) i = partOf ls i := by unfold partOf; rw [List.getElem?_take, if_pos h]

end Go.Proofs.Ytfomidjhmdmmcaa

/- Uint of package wire. -/
namespace Go.Proofs.Ytfomidjhmdmmcaa
open Go.RowKit
set_option linter.unusedVariables false
set_option linter.unusedSimpArgs false

/-- One more digit. -/
def stepU (x d : Int) : Int := bits .or .u64 (IntKind.u64.wrap (x * 256)) (IntKind.u64.wrap d)
def beval (l : List Int) : Int := l.foldl stepU 0
theorem beval_snoc (l : List Int) {k : Nat} (hk : k < l.length) : beval (l.take (k + 1)) = stepU (beval (l.take k)) (l[k]?.getD 0) := by
  rw [List.take_succ_eq_append_getElem hk, List.getElem?_eq_getElem hk]
  simp only [beval, List.foldl_append, List.foldl_cons, List.foldl_nil, Option.getD_some]
abbrev u64O (x : Int) : Obj := .cells #[.int .u64 x] 80 (0, 0)

/-- A cell outside of the block that may be written. -/
theorem src_cellX {w : World} {h : Nat} {b o : Nat} {v : Value} (hb : b ≠ h) (hc : w.cell? ⟨b, o, none⟩ = some v) {bs : List (Nat × Obj)} (s : HeldX w h bs) : s.w.cell? ⟨b, o, none⟩ = some v := by
  rw [← hc]; unfold World.cell?; rw [s.but.block b (World.block_lt_of_cell? w _ hc) hb]

/-- Bytes outside of a block stay there. -/
theorem src_below {w w' : World} {h : Nat} {a : Option Addr} {l : List Int} (hs : Src w h a l) (hb : Below w.heap.size w w') : Src w' h a l := fun hp => by
  obtain ⟨b, o, rfl, hne, hc⟩ := hs hp
  exact ⟨b, o, rfl, hne, fun i hi => (hb.cell (p := ⟨b, o + i, none⟩) (World.block_lt_of_cell? _ _ (hc i hi))).trans (hc i hi)⟩

section
variable (g n L dcap : Nat) (da : Option Addr) (w : World)
end
end Go.Proofs.Ytfomidjhmdmmcaa

/- bytes.Clone, New, Bytes; Length and Expect of a reader that is not ready. -/
namespace Go.Proofs.Ytfomidjhmdmmcaa
open Go.RowKit
set_option linter.unusedVariables false
set_option linter.unusedSimpArgs false

theorem own_setCell6 {w : World} {base b : Nat} {e : TypeId} {v : Value} {n : Nat} {xs : List Value} (h : w.ownsRow base e 1 v n xs) (hb : b < base) (i : Nat) (u : Value) : (w.setCell ⟨b, i, none⟩ u).ownsRow base e 1 v n xs :=
  ⟨h.1, h.2.imp id fun ⟨g, cap, cur, h1, h2, h3, h4⟩ => ⟨g, cap, cur, h1, h2, (Below.heap_setCell _ _ _ _ (by simp only; omega)).trans h3, h4⟩⟩

/-- It returns a new slice of bytes; of what was there only block g has changed: it holds o now. -/
def MakesPuts (g : Nat) (o : Obj) (l : List Int) (w : World) (e : Ending) (w' : World) : Prop := ∃ v, e = .returned v ∧ But g w.heap.size w w' ∧ w'.heap[g]? = some o ∧ w'.ownsRow w.heap.size 5 1 v l.length (l.map (Value.int .u8))

section
variable (g n L dcap : Nat) (da : Option Addr) (w : World)
end

end Go.Proofs.Ytfomidjhmdmmcaa

/- A row that grows, whose elements hold slices of bytes that lie apart from it; one further block may be written; some blocks are held. -/
namespace Go.Proofs.Ytfomidjhmdmmcaa
open Go.RowKit
set_option linter.unusedVariables false

abbrev Sl7 := Option Addr × List Int × Nat
def slV (p : Sl7) : Value := .slice p.1 p.2.1.length p.2.2
theorem bytes_keep {w w' : World} {a : Option Addr} {l : List Int} {cap : Nat} (h : BytesIn w a l cap) (hk : 0 < l.length → ∀ ad, a = some ad → ad.block < w.heap.size → w'.heap[ad.block]? = w.heap[ad.block]?) : BytesIn w' a l cap :=
  ⟨h.len, h.capb, fun hp => by
    obtain ⟨b, o, rfl, hc⟩ := h.cells hp
    refine ⟨b, o, rfl, fun i hi => ?_⟩
    have hb := World.block_lt_of_cell? _ _ (hc i hi)
    rw [← hc i hi]
    unfold World.cell?
    rw [hk hp _ rfl hb], h.nil⟩
theorem own_keep {w w' : World} {base : Nat} {e : TypeId} {size : Nat} {v : Value} {n : Nat} {xs : List Value} (h : w.ownsRow base e size v n xs) (hk : ∀ g, v.ownBlock = some g → g < w.heap.size → w'.heap[g]? = w.heap[g]?) : w'.ownsRow base e size v n xs :=
  ⟨h.1, h.2.imp id fun ⟨g, cap, cur, e1, e2, e3, e4⟩ => ⟨g, cap, cur, e1, e2, (hk g (by rw [e1]; rfl) (Array.getElem?_eq_some_iff.1 e3).1).trans e3, e4⟩⟩

/-- Below B at most the block h has changed. -/
structure ButO (h : Option Nat) (B : Nat) (w w' : World) : Prop where
  os : w'.os = w.os
  tape : w'.tape = w.tape
  output : w'.output = w.output
  size : w.heap.size ≤ w'.heap.size
  block : ∀ k, k < B → h ≠ some k → w'.heap[k]? = w.heap[k]?
theorem ButO.of_below {h : Option Nat} {B : Nat} {w w' : World} (b : Below B w w') : ButO h B w w' := ⟨b.os, b.tape, b.output, b.size, fun k hk _ => b.block k hk⟩
theorem ButO.of_but {h B : Nat} {w w' : World} (b : But h B w w') : ButO (some h) B w w' := ⟨b.os, b.tape, b.output, b.size, fun k hk hn => b.block k hk (fun e => hn (by rw [e]))⟩
theorem ButO.below {B : Nat} {w w' : World} (b : ButO none B w w') : Below B w w' := ⟨b.os, b.tape, b.output, b.size, fun k hk => b.block k hk (fun h => by cases h)⟩
theorem ButO.below' {h B : Nat} {w w' : World} (b : ButO (some h) B w w') (hB : B ≤ h) : Below B w w' := ⟨b.os, b.tape, b.output, b.size, fun k hk => b.block k hk (fun e => by cases e; omega)⟩
theorem ButO.trans {h : Option Nat} {B : Nat} {a b c : World} (p : ButO h B a b) (q : ButO h B b c) : ButO h B a c :=
  ⟨q.os.trans p.os, q.tape.trans p.tape, q.output.trans p.output, Nat.le_trans p.size q.size, fun i hi hn => (q.block i hi hn).trans (p.block i hi hn)⟩
theorem ButO.mono {h : Option Nat} {B B' : Nat} {w w' : World} (p : ButO h B w w') (hB : B' ≤ B) : ButO h B' w w' := ⟨p.os, p.tape, p.output, p.size, fun k hk => p.block k (Nat.lt_of_lt_of_le hk hB)⟩

/-- The row v of n elements of so many cells. -/
structure Grow (w0 : World) (h : Option Nat) (bs : List (Nat × Obj)) (els : List Sl7) (e : TypeId) (size : Nat) (v : Value) (n : Nat) (xs : List Value) where
  w : World
  but : ButO h w0.heap.size w0 w
  own : w.ownsRow w0.heap.size e size v n xs
  hown : ∀ g, h = some g → v.ownBlock ≠ some g ∧ g < w.heap.size
  blocks : ∀ p ∈ bs, w.heap[p.1]? = some p.2 ∧ v.ownBlock ≠ some p.1
  el : ∀ p ∈ els, BytesIn w p.1 p.2.1 p.2.2 ∧ (0 < p.2.1.length → ∀ ad, p.1 = some ad → v.ownBlock ≠ some ad.block ∧ h ≠ some ad.block)

section
variable {w0 : World} {h : Option Nat} {bs : List (Nat × Obj)} {els : List Sl7} {e : TypeId} {size : Nat} {v : Value} {n : Nat} {xs : List Value}
theorem Grow.ownLt (S : Grow w0 h bs els e size v n xs) {g : Nat} (hg : v.ownBlock = some g) : g < S.w.heap.size := (S.own.lt g hg).2
/-- A step that changes at most block h, and makes new ones. -/
theorem Grow.keep (S : Grow w0 h bs els e size v n xs) {w' : World} (hb : ButO h S.w.heap.size S.w w') (bs' : List (Nat × Obj)) (hbs : ∀ p ∈ bs', w'.heap[p.1]? = some p.2 ∧ v.ownBlock ≠ some p.1) : ∃ S' : Grow w0 h bs' els e size v n xs, w' = S'.w := by
  have hk : ∀ g, v.ownBlock = some g → g < S.w.heap.size → w'.heap[g]? = S.w.heap[g]? := fun g hg hl => hb.block g hl (fun hgh => (S.hown g hgh).1 hg)
  exact ⟨⟨w', S.but.trans ⟨hb.os, hb.tape, hb.output, hb.size, fun k hk hn => hb.block k (Nat.lt_of_lt_of_le hk S.but.size) hn⟩, own_keep S.own hk, fun g hg => ⟨(S.hown g hg).1, Nat.lt_of_lt_of_le (S.hown g hg).2 hb.size⟩, hbs, fun p hp => by
    obtain ⟨h1, h2⟩ := S.el p hp
    exact ⟨bytes_keep h1 fun hl ad had hlt => hb.block _ hlt (h2 hl ad had).2, h2⟩⟩, rfl⟩
theorem Grow.held (S : Grow w0 h bs els e size v n xs) {w' : World} (hb : Below S.w.heap.size S.w w') : ∀ p ∈ bs, w'.heap[p.1]? = some p.2 ∧ v.ownBlock ≠ some p.1 := fun p hp => by
  obtain ⟨h1, h2⟩ := S.blocks p hp
  exact ⟨(hb.block _ (Array.getElem?_eq_some_iff.1 h1).1).trans h1, h2⟩
theorem Grow.later (S : Grow w0 h bs els e size v n xs) {w' : World} (hb : Below S.w.heap.size S.w w') : ∃ S' : Grow w0 h bs els e size v n xs, w' = S'.w :=
  S.keep (ButO.of_below hb) bs (S.held hb)
theorem Grow.drewC (S : Grow w0 h bs els e size v n xs) : ∃ S' : Grow w0 h bs els e size v n xs, S.w.drew = S'.w := S.later (Below.refl _ _).drew
theorem Grow.push (S : Grow w0 h bs els e size v n xs) (o : Obj) : ∃ S' : Grow w0 h ((S.w.heap.size, o) :: bs) els e size v n xs, S.w.alloc o = S'.w :=
  S.keep (ButO.of_below ((Below.refl _ S.w).alloc (Nat.le_refl _) o)) _ (List.forall_mem_cons.2 ⟨⟨World.alloc_heap_new S.w o, fun hg => by have := S.ownLt hg; simp only at this; omega⟩, S.held ((Below.refl _ S.w).alloc (Nat.le_refl _) o)⟩)
theorem Grow.more (S : Grow w0 h bs els e size v n xs) (o : Obj) : ∃ (B : Nat) (S' : Grow w0 h ((B, o) :: bs) els e size v n xs), B = S.w.heap.size ∧ S.w.alloc o = S'.w := by
  obtain ⟨S', hS⟩ := S.push o
  exact ⟨_, S', rfl, hS⟩
theorem Grow.sub (S : Grow w0 h bs els e size v n xs) {bs' : List (Nat × Obj)} (hs : ∀ p ∈ bs', p ∈ bs) : ∃ S' : Grow w0 h bs' els e size v n xs, S.w = S'.w :=
  ⟨⟨S.w, S.but, S.own, S.hown, fun p hp => S.blocks p (hs p hp), S.el⟩, rfl⟩
theorem Grow.elsub (S : Grow w0 h bs els e size v n xs) {els' : List Sl7} (hs : ∀ p ∈ els', p ∈ els) : ∃ S' : Grow w0 h bs els' e size v n xs, S.w = S'.w :=
  ⟨⟨S.w, S.but, S.own, S.hown, S.blocks, fun p hp => S.el p (hs p hp)⟩, rfl⟩
/-- The same row, its number and its cells in other words. -/
theorem Grow.conv (S : Grow w0 h bs els e size v n xs) {n' : Nat} {xs' : List Value} (hn : n = n') (hx : xs = xs') : ∃ S' : Grow w0 h bs els e size v n' xs', S.w = S'.w := by subst hn; subst hx; exact ⟨S, rfl⟩
theorem Grow.call {P : Program} {f : FuncId} {args : Array Value} {u : Value} {S : Grow w0 h bs els e size v n xs} (hc : Calls P f args S.w (Gives u S.w)) :
    Calls P f args S.w fun en w'' => en = .returned u ∧ ∃ S' : Grow w0 h bs els e size v n xs, w'' = S'.w :=
  hc.mono fun _ w'' ⟨he, hb⟩ => ⟨he, S.later hb⟩
/-- One more slice of bytes that lies apart. -/
theorem Grow.addEl (S : Grow w0 h bs els e size v n xs) (p : Sl7) (h1 : BytesIn S.w p.1 p.2.1 p.2.2) (h2 : 0 < p.2.1.length → ∀ ad, p.1 = some ad → v.ownBlock ≠ some ad.block ∧ h ≠ some ad.block) : ∃ S' : Grow w0 h bs (p :: els) e size v n xs, S.w = S'.w :=
  ⟨⟨S.w, S.but, S.own, S.hown, S.blocks, List.forall_mem_cons.2 ⟨⟨h1, h2⟩, S.el⟩⟩, rfl⟩
/-- A new slice of its own that a callee has made: one more. -/
theorem own_sl {w : World} {base : Nat} {u : Value} {l : List Int} (ho : w.ownsRow base 5 1 u l.length (l.map (Value.int .u8))) : ∃ A C, u = .slice A l.length C ∧ BytesIn w A l C ∧ (∀ ad, A = some ad → base ≤ ad.block ∧ ad.block < w.heap.size) := by
  have h2 := ho.2
  rcases h2 with ⟨rfl, h0⟩ | ⟨g, cap, cur, rfl, hg, hb, hc, hm, hs, ht⟩
  · exact ⟨none, 0, by rw [h0], ⟨by omega, by omega, fun hp => by omega, fun _ => rfl⟩, fun ad h => by cases h⟩
  · refine ⟨_, cap, rfl, ⟨hc, by unfold maxLen at hm; omega, fun hp => ⟨g, 0, rfl, fun i hi => ?_⟩, fun h => by cases h⟩, fun ad h => by cases h; exact ⟨hg, (Array.getElem?_eq_some_iff.1 hb).1⟩⟩
    have hx : (l.map (Value.int .u8))[i]? = some (.int .u8 (l[i]?.getD 0)) := by rw [List.getElem?_map, List.getElem?_eq_getElem hi]; rfl
    have := ho.cells (g := g) rfl i _ hx
    rwa [Addr.add_mid] at this

/-- An append to the row. -/
theorem Grow.run_append {P : Program} {t : TypeId} (E : ElemS P t e size) (S : Grow w0 h bs els e size v n xs) (ty : TypeId) (ad : Addr) (m c : Nat) (news : List Value) (hl : news.length = m * size)
    (hnews : ∀ j u, news[j]? = some u → S.w.cell? (ad.add j) = some u) (h1 : ∀ u ∈ news, u.oneCell' = true) (h63 : n + m ≤ maxLen) (hbytes : (n + m) * E.bytes ≤ 140737488355328) :
    ∃ v' w', (Builtin.append_ #[t, t] ty #[v, .slice (some ad) m c]).run P S.w = .ok v' w' ∧ ∃ S' : Grow w0 h bs els e size v' (n + m) (xs ++ news), w' = S'.w := by
  obtain ⟨v', w', hrun, ho, hg, hiff⟩ := run_append_own (P := P) S.w w0.heap.size t ty e E.i E.z size E.bytes E.ht E.hi E.hz E.hsize E.hby E.hzs E.hsz v n xs S.own ad m c news hl hnews h1 h63 hbytes S.but.size
  have hblk := append_block E ty S.own ad hl hnews h1 h63 hbytes hrun hiff
  have hne : ∀ k, k < S.w.heap.size → v.ownBlock ≠ some k → v'.ownBlock ≠ some k := fun k hk hv hv' => by
    rcases hblk with hb | hb
    · rw [hb] at hv'; exact hv hv'
    · rw [hb] at hv'; cases hv'; omega
  have hkeep : ∀ k, k < S.w.heap.size → v.ownBlock ≠ some k → w'.heap[k]? = S.w.heap[k]? := fun k hk hv => hg.block k hk (fun he => hv he.symm)
  refine ⟨v', w', hrun, ⟨w', S.but.trans ⟨hg.os, hg.tape, hg.output, hg.size, fun k hk hn => hg.block k (Nat.lt_of_lt_of_le hk S.but.size) (fun he => ?_)⟩, ho, fun g hgh => ⟨hne g (S.hown g hgh).2 (S.hown g hgh).1, Nat.lt_of_lt_of_le (S.hown g hgh).2 hg.size⟩, fun p hp => ?_, fun p hp => ?_⟩, rfl⟩
  · have := (S.own.lt k he.symm).1
    omega
  · obtain ⟨h1, h2⟩ := S.blocks p hp
    have hlt := (Array.getElem?_eq_some_iff.1 h1).1
    exact ⟨(hkeep _ hlt h2).trans h1, hne _ hlt h2⟩
  · obtain ⟨h1, h2⟩ := S.el p hp
    refine ⟨bytes_keep h1 fun hl ad had hlt => hkeep _ hlt (h2 hl ad had).1, fun hl ad had => ?_⟩
    obtain ⟨b, o, he, hc⟩ := h1.cells hl
    have hlt := World.block_lt_of_cell? _ _ (hc 0 hl)
    obtain ⟨h3, h4⟩ := h2 hl ad had
    rw [he] at had
    cases had
    exact ⟨hne _ hlt h3, h4⟩
theorem Grow.append {P : Program} {t : TypeId} (E : ElemS P t e size) {ops : Array Oper} {rest : List Oper} {o : Oper} {a : Act} {Q : Exit → Act → World → Prop} (S : Grow w0 h bs els e size v n xs) (sO srcO : Operand)
    (hgd : o.guard = none) (ho : o.op = .call { callee := .builtin .append, args := #[sO, srcO], argTypes := #[t, t] }) (hs : a.eval sO = v) (ad : Addr) (m c : Nat) (news : List Value) (hl : news.length = m * size) (hx : a.eval srcO = .slice (some ad) m c)
    (hnews : ∀ j u, news[j]? = some u → S.w.cell? (ad.add j) = some u) (h1 : ∀ u ∈ news, u.oneCell' = true) (h63 : n + m ≤ maxLen) (hbytes : (n + m) * E.bytes ≤ 140737488355328)
    (H : ∀ v' (S' : Grow w0 h bs els e size v' (n + m) (xs ++ news)), wpList P ops Q rest (a.put o.dst v') S'.w) : wpList P ops Q (o :: rest) a S.w := by
  obtain ⟨v', w', hrun, S', rfl⟩ := S.run_append E o.type ad m c news hl hnews h1 h63 hbytes
  refine wpList_plain hgd fun K hK => ?_
  unfold Oper.wp
  simp [execOp, ho, resolve, invoke, builtin, hs, hx, hrun, Result.andThen]
  exact hK _ _ (H v' S')
/-- The same of a source that may be nil. -/
theorem Grow.appendO {P : Program} {t : TypeId} (E : ElemS P t e size) {ops : Array Oper} {rest : List Oper} {o : Oper} {a : Act} {Q : Exit → Act → World → Prop} (S : Grow w0 h bs els e size v n xs) (sO srcO : Operand)
    (hgd : o.guard = none) (ho : o.op = .call { callee := .builtin .append, args := #[sO, srcO], argTypes := #[t, t] }) (hs : a.eval sO = v) (sp : Option Addr) (m c : Nat) (news : List Value) (hl : news.length = m * size) (hx : a.eval srcO = .slice sp m c) (hnil : sp = none → m = 0 ∧ c = 0)
    (hnews : ∀ ad, sp = some ad → ∀ j u, news[j]? = some u → S.w.cell? (ad.add j) = some u) (h1 : ∀ u ∈ news, u.oneCell' = true) (h63 : n + m ≤ maxLen) (hbytes : (n + m) * E.bytes ≤ 140737488355328)
    (H : ∀ v' (S' : Grow w0 h bs els e size v' (n + m) (xs ++ news)), wpList P ops Q rest (a.put o.dst v') S'.w) : wpList P ops Q (o :: rest) a S.w := by
  cases sp with
  | some ad => exact S.append E sO srcO hgd ho hs ad m c news hl hx (hnews ad rfl) h1 h63 hbytes H
  | none =>
    obtain ⟨rfl, rfl⟩ := hnil rfl
    obtain rfl := List.eq_nil_of_length_eq_zero (by rw [hl, Nat.zero_mul])
    have hrun := run_append_owned_none (P := P) (w := S.w) w0.heap.size t o.type e E.i size E.ht E.hi v n xs S.own
    refine wpList_plain hgd fun K hK => ?_
    unfold Oper.wp
    simp [execOp, ho, resolve, invoke, builtin, hs, hx, hrun, Result.andThen]
    obtain ⟨S', hS'⟩ := S.conv (n' := n + 0) (xs' := xs ++ []) rfl (by simp)
    rw [hS']
    exact hK _ _ (H v S')
/-- A callee's new slice takes the place of the row. -/
theorem Grow.swap (S : Grow w0 h bs els e size v n xs) {e' : TypeId} {v' : Value} {xs' : List Value} (so : OwnW S.w e' v' xs') : ∃ S' : Grow w0 h bs els e' 1 v' xs'.length xs', so.w = S'.w := by
  have hge : ∀ g, v'.ownBlock = some g → S.w.heap.size ≤ g := fun g hg => (so.own.lt g hg).1
  refine ⟨⟨so.w, S.but.trans (ButO.of_below (so.below.mono S.but.size)), ⟨so.own.1, so.own.2.imp id fun ⟨g, cap, cur, e1, e2, e3⟩ => ⟨g, cap, cur, e1, Nat.le_trans S.but.size e2, e3⟩⟩, fun g hg => ⟨fun hv => ?_, Nat.lt_of_lt_of_le (S.hown g hg).2 so.below.size⟩, fun p hp => ?_, fun p hp => ?_⟩, rfl⟩
  · have := hge g hv
    have := (S.hown g hg).2
    omega
  · obtain ⟨h1, h2⟩ := S.blocks p hp
    have hlt := (Array.getElem?_eq_some_iff.1 h1).1
    exact ⟨(so.below.block _ hlt).trans h1, fun hv => by have := hge _ hv; omega⟩
  · obtain ⟨h1, h2⟩ := S.el p hp
    refine ⟨h1.below so.below, fun hl ad had => ⟨fun hv => ?_, (h2 hl ad had).2⟩⟩
    obtain ⟨b, o, he, hc⟩ := h1.cells hl
    have hlt := World.block_lt_of_cell? _ _ (hc 0 hl)
    rw [he] at had
    cases had
    have := hge _ hv
    simp only at this hlt
    omega
end

/-- The row as bytes. -/
theorem Grow.bytes {w0 : World} {h : Option Nat} {bs : List (Nat × Obj)} {els : List Sl7} {v : Value} {n : Nat} {l : List Int} (S : Grow w0 h bs els 5 1 v n (l.map (Value.int .u8))) : l.length = n ∧ ∃ a cap, v = .slice a n cap ∧ BytesIn S.w a l cap := by
  have hl : l.length = n := by have := S.own.1; simpa using this
  subst hl
  obtain ⟨A, C, h1, h2, -⟩ := own_sl S.own
  exact ⟨rfl, A, C, h1, h2⟩
theorem Grow.ofOwn {w0 : World} {e : TypeId} {v : Value} {xs : List Value} (s : OwnW w0 e v xs) : ∃ S : Grow w0 none [] [] e 1 v xs.length xs, s.w = S.w :=
  ⟨⟨s.w, ButO.of_below s.below, s.own, (fun g hg => by cases hg), (fun p hp => by simp at hp), (fun p hp => by simp at hp)⟩, rfl⟩

section
variable {w0 : World} {h : Nat} {bs : List (Nat × Obj)} {els : List Sl7} {e : TypeId} {size : Nat} {v : Value} {n : Nat} {xs : List Value}
/-- A callee that writes block h. -/
theorem Grow.puts {P : Program} {f : FuncId} {args : Array Value} {u : Value} {o o' : Obj} {S : Grow w0 (some h) ((h, o) :: bs) els e size v n xs} (hne : ∀ p ∈ bs, p.1 ≠ h) (hc : Calls P f args S.w (Puts h o' u S.w)) :
    Calls P f args S.w fun en w'' => en = .returned u ∧ ∃ S' : Grow w0 (some h) ((h, o') :: bs) els e size v n xs, w'' = S'.w :=
  hc.mono fun _ w'' ⟨he, hb, ho⟩ => ⟨he, S.keep (ButO.of_but hb) _ (List.forall_mem_cons.2 ⟨⟨ho, (S.hown h rfl).1⟩, fun p hp => by
    obtain ⟨h1, h2⟩ := S.blocks p (List.mem_cons_of_mem _ hp)
    exact ⟨(hb.block _ (Array.getElem?_eq_some_iff.1 h1).1 (hne p hp)).trans h1, h2⟩⟩)⟩
theorem Grow.makesPuts {P : Program} {f : FuncId} {args : Array Value} {l : List Int} {o o' : Obj} {S : Grow w0 (some h) ((h, o) :: bs) els e size v n xs} (hne : ∀ p ∈ bs, p.1 ≠ h) (hc : Calls P f args S.w (MakesPuts h o' l S.w)) :
    Calls P f args S.w fun en w'' => ∃ A C, en = .returned (.slice A l.length C) ∧ ∃ S' : Grow w0 (some h) ((h, o') :: bs) ((A, l, C) :: els) e size v n xs, w'' = S'.w :=
  hc.mono fun _ w'' ⟨u, he, hb, ho, hrow⟩ => by
    obtain ⟨A, C, rfl, hB, hA⟩ := own_sl hrow
    obtain ⟨S1, h1⟩ := S.keep (ButO.of_but hb) ((h, o') :: bs) (List.forall_mem_cons.2 ⟨⟨ho, (S.hown h rfl).1⟩, fun p hp => by
      obtain ⟨h1, h2⟩ := S.blocks p (List.mem_cons_of_mem _ hp)
      exact ⟨(hb.block _ (Array.getElem?_eq_some_iff.1 h1).1 (hne p hp)).trans h1, h2⟩⟩)
    rw [h1] at hB
    obtain ⟨S2, h2⟩ := S1.addEl (A, l, C) hB (fun _ ad had => by
      have := hA ad had
      refine ⟨fun hg => ?_, fun hg => ?_⟩
      · have := S.ownLt hg
        omega
      · have := (S.hown _ hg).2
        omega)
    exact ⟨A, C, he, S2, h1.trans h2⟩
end

end Go.Proofs.Ytfomidjhmdmmcaa
