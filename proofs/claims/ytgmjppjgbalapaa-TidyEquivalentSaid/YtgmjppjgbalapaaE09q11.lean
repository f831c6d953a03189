import Derived.Deep.Onto
import Derived.Test.YtgmjppjgbalapaaE09q2
import Derived.Test.YtgmjppjgbalapaaE09q9
import Derived.Great.BuildSlice
import Derived.Deep.WholeRow
import Derived.Test.YtgmjppjgbalapaaE09q1
/- Several rows that the call itself made, apart from each other: some of them grow, some are written. -/
namespace Go.Proofs.Ytgmjppjgbalapaa
open Go.RowKit
set_option linter.unusedVariables false

/-- What an element type must be, of so many cells and of however many bytes. -/
structure ElemS (P : Program) (t e : TypeId) (size : Nat) where
  i : TypeInfo
  z : Value
  bytes : Nat
  ht : P.underlying t = some (.slice e)
  hi : P.info? e = some i
  hz : i.zero = some z
  hsize : i.size = size
  hby : i.bytes = bytes
  hzs : z.cells.size = size
  hsz : 0 < size
abbrev ElemW (P : Program) (t e : TypeId) := ElemS P t e 1
theorem elemW8 : ∃ E : ElemW Try.prog 24 5, E.bytes = 1 := by
  obtain ⟨E, h⟩ := elem8
  exact ⟨⟨E.i, E.z, E.bytes, E.ht, E.hi, E.hz, E.hsize, E.hby, E.hzs, by omega⟩, h⟩
theorem elemWP : ∃ E : ElemW Try.prog 102 24, E.bytes = 24 := by
  have h : (Try.prog.info? 24).map (fun i => (i.zero, i.size, i.bytes)) = some (some (.slice none 0 0), 1, 24) := by kernel_rfl
  obtain ⟨i, hi, he⟩ := Option.map_eq_some_iff.1 h
  simp only [Prod.mk.injEq] at he
  exact ⟨⟨i, .slice none 0 0, 24, Try.underlying102, hi, he.1, he.2.1, he.2.2, rfl, by omega⟩, rfl⟩

theorem perm_third {α : Type} (a b c : α) (l : List α) : (c :: a :: b :: l).Perm (a :: b :: c :: l) := (List.Perm.swap _ _ _).trans ((List.Perm.swap _ _ _).cons _)
theorem perm_snoc {α : Type} (a b e x : α) (l : List α) : (b :: a :: x :: (l ++ [e])).Perm (a :: b :: e :: x :: l) :=
  ((((List.perm_append_singleton e l).cons x).cons a).cons b).trans ((List.Perm.swap _ _ _).trans (((List.Perm.swap _ _ _).cons _).cons _))

/-- A row that the call itself made: n elements of so many cells, behind the slice v. -/
structure Row where
  e : TypeId
  size : Nat
  v : Value
  n : Nat
  xs : List Value
def Row.At (r : Row) (base : Nat) (w : World) : Prop := w.ownsRow base r.e r.size r.v r.n r.xs
def ApartV (u v : Value) : Prop := u.ownBlock = none ∨ u.ownBlock ≠ v.ownBlock
theorem ApartV.symm {u v : Value} (h : ApartV u v) : ApartV v u := by
  unfold ApartV at *
  rcases h with h | h
  · rw [h]
    cases v.ownBlock with
    | none => exact .inl rfl
    | some g => exact .inr (fun h => by cases h)
  · exact .inr (Ne.symm h)

/-- A world that holds such rows; below w0's heap nothing has changed. -/
structure Piles (w0 : World) (rs : List Row) where
  w : World
  below : Below w0.heap.size w0 w
  rows : ∀ r ∈ rs, r.At w0.heap.size w
  apart : (rs.map (·.v)).Pairwise ApartV

theorem own_later {w w' : World} {base : Nat} {e : TypeId} {size : Nat} {v : Value} {n : Nat} {xs : List Value} (h : w.ownsRow base e size v n xs) (hb : Below w.heap.size w w') : w'.ownsRow base e size v n xs :=
  ⟨h.1, h.2.imp id fun ⟨g, cap, cur, e1, e2, e3, e4⟩ => ⟨g, cap, cur, e1, e2, (hb.block _ (Array.getElem?_eq_some_iff.1 e3).1).trans e3, e4⟩⟩

section
variable {w0 : World} {rs : List Row}
theorem Piles.later (S : Piles w0 rs) {w' : World} (h : Below S.w.heap.size S.w w') : ∃ S' : Piles w0 rs, w' = S'.w :=
  ⟨⟨w', S.below.trans (h.mono S.below.size), fun r hr => own_later (S.rows r hr) h, S.apart⟩, rfl⟩
theorem Piles.drewC (S : Piles w0 rs) : ∃ S' : Piles w0 rs, S.w.drew = S'.w := S.later (Below.refl _ _).drew
theorem Piles.call {P : Program} {f : FuncId} {args : Array Value} {u : Value} {S : Piles w0 rs} (h : Calls P f args S.w (Gives u S.w)) :
    Calls P f args S.w fun en w'' => en = .returned u ∧ ∃ S' : Piles w0 rs, w'' = S'.w :=
  h.mono fun _ w'' ⟨he, hb⟩ => ⟨he, S.later hb⟩
theorem Piles.perm (S : Piles w0 rs) {rs' : List Row} (h : rs'.Perm rs) : ∃ S' : Piles w0 rs', S.w = S'.w :=
  ⟨⟨S.w, S.below, fun r hr => S.rows r (h.mem_iff.1 hr), (List.Perm.pairwise_iff (fun {a b} h => ApartV.symm h) (h.map _)).2 S.apart⟩, rfl⟩
theorem Piles.sub (S : Piles w0 rs) {rs' : List Row} (h : rs'.Sublist rs) : ∃ S' : Piles w0 rs', S.w = S'.w :=
  ⟨⟨S.w, S.below, fun r hr => S.rows r (h.subset hr), S.apart.sublist (h.map _)⟩, rfl⟩
/-- One more row, in a new block. -/
theorem Piles.fresh (S : Piles w0 rs) {w' : World} (h : Below S.w.heap.size S.w w') (r : Row) (hr : r.At w0.heap.size w') (hb : ∀ g, r.v.ownBlock = some g → S.w.heap.size ≤ g) : ∃ S' : Piles w0 (r :: rs), w' = S'.w := by
  refine ⟨⟨w', S.below.trans (h.mono S.below.size), fun q hq => ?_, ?_⟩, rfl⟩
  · rcases List.mem_cons.1 hq with rfl | hq
    · exact hr
    · exact own_later (S.rows q hq) h
  · rw [List.map_cons, List.pairwise_cons]
    refine ⟨fun u hu => ?_, S.apart⟩
    obtain ⟨q, hq, rfl⟩ := List.mem_map.1 hu
    unfold ApartV
    cases hg : r.v.ownBlock with
    | none => exact .inl rfl
    | some g =>
      right
      intro he
      have h1 := hb g hg
      have h2 := ((S.rows q hq).lt g he.symm).2
      omega
/-- One more row, apart from the others. -/
theorem Piles.add (S : Piles w0 rs) (r : Row) (hr : r.At w0.heap.size S.w) (hap : ∀ q ∈ rs, ApartV r.v q.v) : ∃ S' : Piles w0 (r :: rs), S.w = S'.w :=
  ⟨⟨S.w, S.below, fun q hq => by rcases List.mem_cons.1 hq with rfl | hq; exact hr; exact S.rows q hq, by
    rw [List.map_cons, List.pairwise_cons]
    exact ⟨fun u hu => by obtain ⟨q, hq, rfl⟩ := List.mem_map.1 hu; exact hap q hq, S.apart⟩⟩, rfl⟩
theorem Piles.ltAll (S : Piles w0 rs) : ∀ q ∈ rs, ∀ g, q.v.ownBlock = some g → g < S.w.heap.size := fun q hq g hg => ((S.rows q hq).lt g hg).2
theorem box_at {w : World} {base b : Nat} {t : TypeId} {cs : Array Value} {size : Nat} (hb : base ≤ b) (h : w.heap[b]? = some (.cells cs t (0, 0))) (hs : cs.size = size) : Row.At ⟨t, size, .slice (some ⟨b, 0, none⟩) 1 1, 1, cs.toList⟩ base w := by
  refine ⟨by simp [hs], .inr ⟨b, 1, cs, rfl, hb, h, Nat.le_refl _, by unfold maxLen; omega, by simp [hs], ?_⟩⟩
  rw [List.take_of_length_le]
  simp [hs]
/-- A block of its own, as a row. -/
theorem Piles.box (S : Piles w0 rs) (t : TypeId) (cs : Array Value) (size : Nat) (hs : cs.size = size) : ∃ S' : Piles w0 (⟨t, size, .slice (some ⟨S.w.heap.size, 0, none⟩) 1 1, 1, cs.toList⟩ :: rs), S.w.alloc (.cells cs t) = S'.w := by
  refine S.fresh ((Below.refl _ _).alloc (Nat.le_refl _) _) _ ?_ (fun g hg => by simp [Value.ownBlock] at hg; omega)
  refine ⟨by simp [hs], .inr ⟨S.w.heap.size, 1, cs, rfl, S.below.size, World.alloc_heap_new _ _, Nat.le_refl _, by unfold maxLen; omega, by simp [hs], ?_⟩⟩
  rw [List.take_of_length_le]
  simp [hs]
theorem Piles.empty (S : Piles w0 rs) (e : TypeId) (size : Nat) : ∃ S' : Piles w0 (⟨e, size, .slice (some ⟨S.w.heap.size, 0, none⟩) 0 0, 0, []⟩ :: rs), S.w.alloc (.cells #[] e) = S'.w := by
  refine S.fresh ((Below.refl _ _).alloc (Nat.le_refl _) _) _ ?_ (fun g hg => by simp [Value.ownBlock] at hg; omega)
  exact World.ownsRow_made (base := w0.heap.size) (e := e) (size := size) S.w #[] 0 S.below.size (by unfold maxLen; omega) (by simp)
end

/-- The first box; a row that is nil. -/
theorem Piles.start (w : World) (t : TypeId) (cs : Array Value) (size : Nat) (hs : cs.size = size) : ∃ S : Piles w [⟨t, size, .slice (some ⟨w.heap.size, 0, none⟩) 1 1, 1, cs.toList⟩], w.alloc (.cells cs t) = S.w :=
  (⟨w, Below.refl _ _, by simp, List.Pairwise.nil⟩ : Piles w []).box t cs size hs
theorem Piles.nilRow {w0 : World} {rs : List Row} (S : Piles w0 rs) (e : TypeId) : ∃ S' : Piles w0 (⟨e, 1, .slice none 0 0, 0, []⟩ :: rs), S.w = S'.w :=
  S.fresh (Below.refl _ _) _ (World.ownsRow_nil S.w w0.heap.size e 1) (fun g hg => by cases hg)

/-- The same rows, in other words and in another order. -/
theorem Piles.conv {w0 : World} {rs : List Row} (S : Piles w0 rs) (rs1 : List Row) (h1 : rs = rs1) {rs2 : List Row} (h2 : rs2.Perm rs1) : ∃ S' : Piles w0 rs2, S.w = S'.w := by subst h1; exact S.perm h2

/-- Where an append puts its row. -/
theorem append_block {P : Program} {t e : TypeId} {size : Nat} (E : ElemS P t e size) {w w' : World} {base n m c : Nat} {v v' : Value} {xs news : List Value} (ty : TypeId) (hown : w.ownsRow base e size v n xs) (ad : Addr) (hl : news.length = m * size) (hnews : ∀ j u, news[j]? = some u → w.cell? (ad.add j) = some u) (h1 : ∀ u ∈ news, u.oneCell' = true)
    (h63 : n + m ≤ maxLen) (hbytes : (n + m) * E.bytes ≤ 140737488355328) (hrun : (Builtin.append_ #[t, t] ty #[v, .slice (some ad) m c]).run P w = .ok v' w') (hiff : v' = .slice none 0 0 ↔ v = .slice none 0 0 ∧ m = 0) : v'.ownBlock = v.ownBlock ∨ v'.ownBlock = some w.heap.size := by
  have hsmall : n + m ≤ 9223372036854775807 := by simp only [maxLen] at h63; omega
  have hl1 : news.length = m * E.i.size := by rw [E.hsize, hl]
  rcases hown.2 with ⟨rfl, rfl⟩ | ⟨g, cap, cur, rfl, hbg, hg, hnc, hcm, hcs, htake⟩
  · by_cases hm : m = 0
    · rw [hiff.2 ⟨rfl, hm⟩]
      exact .inl rfl
    · have hr := run_append_nil (P := P) w t ty e E.i E.z E.ht E.hi E.hz ad m c news hl1 hnews (by omega) (by omega) (by rw [E.hby]; simp only [Nat.zero_add] at hbytes; omega)
      rw [hr] at hrun
      injection hrun with h2 h3
      subst h2
      exact .inr rfl
  · by_cases hroom : n + m ≤ cap
    · have hr := run_append_room (P := P) w t ty e E.i E.ht E.hi g n cap cur hg ad m c news hl1 hnews h1 hroom (by rw [hl1, hcs, E.hsize, ← Nat.add_mul]; exact Nat.mul_le_mul_right _ hroom)
      rw [hr] at hrun
      injection hrun with h2 h3
      subst h2
      exact .inl rfl
    · have hr := run_append_grow (P := P) w t ty e E.i E.z E.ht E.hi E.hz ⟨g, 0, none⟩ n cap xs (by rw [E.hsize]; exact hown.1) (hown.cells (g := g) rfl) ad m c news hl1 hnews (by omega) (by omega) (growslice_fits (by omega) (by rw [E.hby]; exact hbytes))
      rw [hr] at hrun
      injection hrun with h2 h3
      subst h2
      exact .inr rfl

/-- An append to the first row. -/
theorem run_append_pilesS {P : Program} {t e : TypeId} {size : Nat} (E : ElemS P t e size) {w0 : World} {rs : List Row} {v : Value} {n : Nat} {xs : List Value} (S : Piles w0 (⟨e, size, v, n, xs⟩ :: rs)) (ty : TypeId) (sp : Option Addr) (m c : Nat) (news : List Value) (hl : news.length = m * size)
    (hnil : sp = none → m = 0 ∧ c = 0) (hnews : ∀ ad, sp = some ad → ∀ j u, news[j]? = some u → S.w.cell? (ad.add j) = some u) (h1 : ∀ u ∈ news, u.oneCell' = true) (h63 : n + m ≤ maxLen) (hbytes : (n + m) * E.bytes ≤ 140737488355328) :
    ∃ v' w', (Builtin.append_ #[t, t] ty #[v, .slice sp m c]).run P S.w = .ok v' w' ∧ ∃ S' : Piles w0 (⟨e, size, v', n + m, xs ++ news⟩ :: rs), w' = S'.w := by
  have hown : S.w.ownsRow w0.heap.size e size v n xs := S.rows _ List.mem_cons_self
  have hap := S.apart
  rw [List.map_cons, List.pairwise_cons] at hap
  cases sp with
  | none =>
    obtain ⟨rfl, rfl⟩ := hnil rfl
    obtain rfl := List.eq_nil_of_length_eq_zero (by rw [hl, Nat.zero_mul])
    refine ⟨v, S.w, run_append_owned_none (P := P) (w := S.w) w0.heap.size t ty e E.i size E.ht E.hi v n xs hown, ⟨S.w, S.below, fun r hr => ?_, ?_⟩, rfl⟩
    · rcases List.mem_cons.1 hr with rfl | hr
      · simpa [Row.At] using hown
      · exact S.rows r (List.mem_cons_of_mem _ hr)
    · exact S.apart
  | some ad =>
    obtain ⟨v', w', hrun, ho, hg, hiff⟩ := run_append_own (P := P) S.w w0.heap.size t ty e E.i E.z size E.bytes E.ht E.hi E.hz E.hsize E.hby E.hzs E.hsz v n xs hown ad m c news hl (hnews ad rfl) h1 h63 hbytes S.below.size
    have hblk := append_block E ty hown ad hl (hnews ad rfl) h1 h63 hbytes hrun hiff
    refine ⟨v', w', hrun, ⟨w', S.below.grown hg S.below.size (fun k hk => (hown.lt k hk).1), fun r hr => ?_, ?_⟩, rfl⟩
    · rcases List.mem_cons.1 hr with rfl | hr
      · exact ho
      · refine World.ownsRow.kept (S.rows r (List.mem_cons_of_mem _ hr)) hg ?_
        rcases hap.1 r.v (List.mem_map.2 ⟨r, hr, rfl⟩) with h | h
        · cases hr2 : r.v.ownBlock with
          | none => exact .inl rfl
          | some g => right; rw [h]; intro h3; cases h3
        · right; exact Ne.symm h
    · rw [List.map_cons, List.pairwise_cons]
      refine ⟨fun u hu => ?_, hap.2⟩
      rcases hblk with h | h
      · have := hap.1 u hu
        unfold ApartV at this ⊢
        rwa [h]
      · obtain ⟨q, hq, rfl⟩ := List.mem_map.1 hu
        unfold ApartV
        right
        rw [h]
        intro he
        have := ((S.rows q (List.mem_cons_of_mem _ hq)).lt _ he.symm).2
        omega

/-- The same for the walk. -/
theorem wpList_append_pilesS {P : Program} {t e : TypeId} {size : Nat} (E : ElemS P t e size) {w0 : World} {rs : List Row} {v : Value} {n : Nat} {xs : List Value} {ops : Array Oper} {rest : List Oper} {o : Oper} {a : Act} {Q : Exit → Act → World → Prop} (S : Piles w0 (⟨e, size, v, n, xs⟩ :: rs)) (sO xO : Operand)
    (hgd : o.guard = none) (ho : o.op = .call { callee := .builtin .append, args := #[sO, xO], argTypes := #[t, t] }) (hs : a.eval sO = v) (sp : Option Addr) (m c : Nat) (news : List Value) (hl : news.length = m * size) (hx : a.eval xO = .slice sp m c)
    (hnil : sp = none → m = 0 ∧ c = 0) (hnews : ∀ ad, sp = some ad → ∀ j u, news[j]? = some u → S.w.cell? (ad.add j) = some u) (h1 : ∀ u ∈ news, u.oneCell' = true) (h63 : n + m ≤ maxLen) (hbytes : (n + m) * E.bytes ≤ 140737488355328)
    (H : ∀ v' (S' : Piles w0 (⟨e, size, v', n + m, xs ++ news⟩ :: rs)), wpList P ops Q rest (a.put o.dst v') S'.w) : wpList P ops Q (o :: rest) a S.w := by
  obtain ⟨v', w', hrun, S', rfl⟩ := run_append_pilesS E S o.type sp m c news hl hnil hnews h1 h63 hbytes
  refine wpList_plain hgd fun K hK => ?_
  unfold Oper.wp
  simp [execOp, ho, resolve, invoke, builtin, hs, hx, hrun, Result.andThen]
  exact hK _ _ (H v' S')

/-- The same, of elements of one cell. -/
theorem wpList_append_piles {P : Program} {t e : TypeId} (E : ElemW P t e) {w0 : World} {rs : List Row} {v : Value} {n : Nat} {xs : List Value} {ops : Array Oper} {rest : List Oper} {o : Oper} {a : Act} {Q : Exit → Act → World → Prop} (S : Piles w0 (⟨e, 1, v, n, xs⟩ :: rs)) (sO xO : Operand)
    (hgd : o.guard = none) (ho : o.op = .call { callee := .builtin .append, args := #[sO, xO], argTypes := #[t, t] }) (hs : a.eval sO = v) (sp : Option Addr) (m c : Nat) (news : List Value) (hl : news.length = m) (hx : a.eval xO = .slice sp m c)
    (hnil : sp = none → m = 0 ∧ c = 0) (hnews : ∀ ad, sp = some ad → ∀ j u, news[j]? = some u → S.w.cell? (ad.add j) = some u) (h1 : ∀ u ∈ news, u.oneCell' = true) (h63 : n + m ≤ maxLen) (hbytes : (n + m) * E.bytes ≤ 140737488355328)
    (H : ∀ v' (S' : Piles w0 (⟨e, 1, v', n + m, xs ++ news⟩ :: rs)), wpList P ops Q rest (a.put o.dst v') S'.w) : wpList P ops Q (o :: rest) a S.w :=
  wpList_append_pilesS E S sO xO hgd ho hs sp m c news (by omega) hx hnil hnews h1 h63 hbytes H

/-- One element, in a new literal, is appended to the second row. -/
theorem wpList_append_one {P : Program} {t e : TypeId} (E : ElemW P t e) {w0 : World} {r1 : Row} {rs : List Row} {v : Value} {n : Nat} {xs : List Value} {ops : Array Oper} {rest : List Oper} {o : Oper} {a : Act} {Q : Exit → Act → World → Prop} (S : Piles w0 (r1 :: ⟨e, 1, v, n, xs⟩ :: rs)) (x : Value) (hx1 : x.oneCell' = true) (sO xO : Operand)
    (hgd : o.guard = none) (ho : o.op = .call { callee := .builtin .append, args := #[sO, xO], argTypes := #[t, t] }) (hs : a.eval sO = v) (hx : a.eval xO = .slice (some ⟨S.w.heap.size, 0, none⟩) 1 1) (h63 : n + 1 ≤ maxLen) (hbytes : (n + 1) * E.bytes ≤ 140737488355328)
    (H : ∀ v' (S' : Piles w0 (⟨e, 1, v', n + 1, xs ++ [x]⟩ :: r1 :: rs)), wpList P ops Q rest (a.put o.dst v') S'.w) : wpList P ops Q (o :: rest) a (S.w.alloc (.cells #[x] e)) := by
  obtain ⟨S3, hS3⟩ := S.later (w' := S.w.alloc (.cells #[x] e)) ((Below.refl _ _).alloc (Nat.le_refl _) _)
  obtain ⟨S4, hS4⟩ := S3.perm (rs' := ⟨e, 1, v, n, xs⟩ :: r1 :: rs) (List.Perm.swap _ _ _)
  have hc : S4.w.cell? ⟨S.w.heap.size, 0, none⟩ = some x := by rw [← hS4, ← hS3, cell_of (World.alloc_heap_new S.w _)]; rfl
  rw [hS3, hS4]
  refine wpList_append_piles E S4 sO xO hgd ho hs (some ⟨S.w.heap.size, 0, none⟩) 1 1 [x] rfl hx (fun h => by cases h) (fun ad had j u hu => ?_) (fun u hu => by simp at hu; subst hu; exact hx1) h63 hbytes H
  obtain rfl := Option.some.inj had
  cases j with
  | zero => simp at hu; subst hu; rw [Addr.add_mid]; exact hc
  | succ j => simp at hu

/-- A cell of a row is written. -/
theorem Piles.storeAt {w0 : World} {rs : List Row} (S : Piles w0 rs) (p : Nat) (r : Row) (hp : rs[p]? = some r) (g n c : Nat) (hv : r.v = .slice (some ⟨g, 0, none⟩) n c) (hn : r.n = n) (i : Nat) (hi : i < n * r.size) (u : Value) :
    ∃ S' : Piles w0 (rs.set p { r with xs := r.xs.set i u }), S.w.setCell ⟨g, i, none⟩ u = S'.w := by
  have hr := S.rows r (List.mem_of_getElem? hp)
  have hpl := (List.getElem?_eq_some_iff.1 hp).1
  have hgb : w0.heap.size ≤ g := (hr.lt g (by rw [hv]; rfl)).1
  refine ⟨⟨_, S.below.setCell (p := ⟨g, i, none⟩) hgb _, fun q hq => ?_, ?_⟩, rfl⟩
  · obtain ⟨j, hj⟩ := List.getElem?_of_mem hq
    rw [List.getElem?_set] at hj
    by_cases hpj : p = j
    · rw [if_pos hpj, if_pos (by omega)] at hj
      obtain rfl := Option.some.inj hj
      unfold Row.At at hr ⊢
      simp only
      rw [hv, hn] at hr ⊢
      rcases hr.2 with ⟨h0, _⟩ | ⟨g', cap, cur, e1, e2, e3, e4, e5, e6, e7⟩
      · cases h0
      · simp only [Value.slice.injEq, Option.some.injEq, Addr.mk.injEq, and_true, true_and] at e1
        obtain ⟨rfl, rfl⟩ := e1
        refine ⟨by rw [List.length_set]; exact hr.1, .inr ⟨g, c, cur.setIfInBounds i u, rfl, e2, heap_setCell_same _ _ _ _ _ _ e3, e4, e5, by simpa using e6, ?_⟩⟩
        rw [Array.toList_setIfInBounds, List.take_set, e7]
    · rw [if_neg hpj] at hj
      have hqm := List.mem_of_getElem? hj
      have hq0 := S.rows q hqm
      have hapt : ApartV r.v q.v := by
        have hh := List.pairwise_iff_getElem.1 S.apart
        have hjl := (List.getElem?_eq_some_iff.1 hj).1
        have e1 : (rs.map (·.v))[p]'(by simpa using hpl) = r.v := by
          rw [List.getElem_map]
          rw [(List.getElem?_eq_some_iff.1 hp).2]
        have e2 : (rs.map (·.v))[j]'(by simpa using hjl) = q.v := by
          rw [List.getElem_map]
          rw [(List.getElem?_eq_some_iff.1 hj).2]
        rcases Nat.lt_or_ge p j with h | h
        · have := hh p j (by simpa using hpl) (by simpa using hjl) h
          rwa [e1, e2] at this
        · have := hh j p (by simpa using hjl) (by simpa using hpl) (by omega)
          rw [e1, e2] at this
          exact this.symm
      refine ⟨hq0.1, hq0.2.imp id fun ⟨g', cap, cur, e1, e2, e3, e4⟩ => ⟨g', cap, cur, e1, e2, (Below.heap_setCell _ _ _ _ ?_).trans e3, e4⟩⟩
      simp only
      intro hgg
      rcases hapt with h | h
      · rw [hv] at h; cases h
      · rw [hv, e1] at h
        simp [Value.ownBlock] at h
        omega
  · rw [List.map_set]
    have : (rs.map (·.v)).set p r.v = rs.map (·.v) := by
      have h : (rs.map (·.v))[p]? = some r.v := by rw [List.getElem?_map, hp]; rfl
      apply List.ext_getElem?
      intro j
      rw [List.getElem?_set]
      by_cases hpj : p = j
      · subst hpj; rw [if_pos rfl, if_pos (by simpa using hpl), h]
      · rw [if_neg hpj]
    rw [this]
    exact S.apart

/-- A row of bytes can be read. -/
theorem Piles.bytes {w0 : World} {rs : List Row} (S : Piles w0 rs) {v : Value} {n : Nat} {l : List Int} (h : (⟨5, 1, v, n, l.map (Value.int .u8)⟩ : Row) ∈ rs) : l.length = n ∧ ∃ (a : Option Addr) (cap : Nat), v = .slice a n cap ∧ BytesIn S.w a l cap := by
  have hr := S.rows _ h
  have hl : l.length = n := by have := hr.1; simp at this; omega
  subst hl
  obtain ⟨a, cap, h1, h2⟩ := (⟨S.w, S.below, by rw [List.length_map]; exact hr⟩ : OwnW w0 5 v (l.map (Value.int .u8))).bytes
  exact ⟨rfl, a, cap, h1, h2⟩
/-- What a row looks like. -/
theorem Piles.view {w0 : World} {rs : List Row} (S : Piles w0 rs) {r : Row} (h : r ∈ rs) : ∃ (a : Option Addr) (cap : Nat), r.v = .slice a r.n cap ∧ (a = none → cap = 0) ∧ r.n ≤ cap ∧ cap ≤ 9223372036854775807 ∧ (0 < r.n → ∃ g, a = some ⟨g, 0, none⟩ ∧ ∀ (j : Nat) (u : Value), r.xs[j]? = some u → S.w.cell? ⟨g, j, none⟩ = some u ∧ S.w.frozen? ⟨g, j, none⟩ = false) := by
  have hr := S.rows _ h
  rcases hr.2 with ⟨h1, h0⟩ | ⟨g, cap, cur, hv, hg, hb, hc, hm, hs, ht⟩
  · exact ⟨none, 0, by rw [h1, h0], fun _ => rfl, by omega, by omega, fun h => by omega⟩
  · refine ⟨_, cap, hv, (fun h => by cases h), hc, by unfold maxLen at hm; omega, fun _ => ⟨g, rfl, fun j u hu => ⟨?_, free_of hb j⟩⟩⟩
    have := World.ownsRow.cells hr (g := g) (by rw [hv]; rfl) j u hu
    rwa [Addr.add_mid, Nat.zero_add] at this

/-- The cells of a box. -/
theorem Piles.boxCells {w0 : World} {rs : List Row} (S : Piles w0 rs) {t : TypeId} {size b : Nat} {xs : List Value} (h : (⟨t, size, .slice (some ⟨b, 0, none⟩) 1 1, 1, xs⟩ : Row) ∈ rs) : b < S.w.heap.size ∧ ∀ (j : Nat) (u : Value), xs[j]? = some u → S.w.cell? ⟨b, j, none⟩ = some u := by
  have hr := S.rows _ h
  refine ⟨(hr.lt b rfl).2, fun j u hu => ?_⟩
  have := World.ownsRow.cells hr (g := b) rfl j u hu
  rwa [Addr.add_mid, Nat.zero_add] at this

/-- The five cells of a box are written. -/
theorem Piles.put5 {w0 : World} {rs : List Row} (S : Piles w0 rs) (p : Nat) {t : TypeId} {b : Nat} {z0 z1 z2 z3 z4 : Value} (hp : rs[p]? = some ⟨t, 5, .slice (some ⟨b, 0, none⟩) 1 1, 1, [z0, z1, z2, z3, z4]⟩) (u0 u1 u2 u3 u4 : Value) :
    ∃ S' : Piles w0 (rs.set p ⟨t, 5, .slice (some ⟨b, 0, none⟩) 1 1, 1, [u0, u1, u2, u3, u4]⟩), ((((S.w.setCell ⟨b, 0, none⟩ u0).setCell ⟨b, 1, none⟩ u1).setCell ⟨b, 2, none⟩ u2).setCell ⟨b, 3, none⟩ u3).setCell ⟨b, 4, none⟩ u4 = S'.w := by
  have hpl := (List.getElem?_eq_some_iff.1 hp).1
  have hs : ∀ (r : Row) (l : List Row), l.length = rs.length → (l.set p r)[p]? = some r := fun r l hl => by rw [List.getElem?_set]; simp [hl, hpl]
  obtain ⟨S1, h1⟩ := S.storeAt p _ hp b 1 1 rfl rfl 0 (by simp) u0
  obtain ⟨S2, h2⟩ := S1.storeAt p _ (hs _ _ rfl) b 1 1 rfl rfl 1 (by simp) u1
  obtain ⟨S3, h3⟩ := S2.storeAt p _ (hs _ _ (by simp)) b 1 1 rfl rfl 2 (by simp) u2
  obtain ⟨S4, h4⟩ := S3.storeAt p _ (hs _ _ (by simp)) b 1 1 rfl rfl 3 (by simp) u3
  obtain ⟨S5, h5⟩ := S4.storeAt p _ (hs _ _ (by simp)) b 1 1 rfl rfl 4 (by simp) u4
  obtain ⟨S6, h6⟩ := S5.conv (rs.set p ⟨t, 5, .slice (some ⟨b, 0, none⟩) 1 1, 1, [u0, u1, u2, u3, u4]⟩) (by simp) (List.Perm.refl _)
  exact ⟨S6, by rw [h1, h2, h3, h4, h5, h6]⟩
end Go.Proofs.Ytgmjppjgbalapaa

/- A wanted operation of a region in the text's order, and the whole-row load and the build as such. -/
namespace Go.Proofs.Ytgmjppjgbalapaa
open Go.RowKit
set_option linter.unusedVariables false

/-- A wanted operation of a region in the text's order, and the whole-array load and the build as such. -/
theorem wpList_wanted {P : Program} {ops : Array Oper} {rest : List Oper} {o : Oper} {a : Act} {w : World} {Q : Exit → Act → World → Prop} (hw : Region.wanted o (yielded ops a.tmps) = true)
    (h : ∀ K : Act → World → Prop, (∀ a w, wpList P ops Q rest a w → K a w) → o.wp P a w K Q) : wpList P ops Q (o :: rest) a w :=
  wpList_step fun K hK => by rw [if_pos hw]; exact h K hK
theorem wpList_load_rowG {P : Program} {ops : Array Oper} {rest : List Oper} {o : Oper} {a : Act} {w : World} {Q : Exit → Act → World → Prop} (hgd : Region.wanted o (yielded ops a.tmps) = true) (ty : TypeId) (x : Operand) (ho : o.op = .load ty x)
    (d0 : Option Tmp) (hdst : o.dst = d0) (g : Nat) (hx : a.eval x = .pointer (some ⟨g, 0, none⟩)) (t : TypeId) (cs : Array Value) (fr : Nat × Nat) (d : TypeDesc) (hg : w.heap[g]? = some (.cells cs t fr))
    (hu : P.underlying ty = some d) (hd : (match d with | .struct _ | .array _ _ => true | _ => false) = true) (hi : (P.info? ty).map (·.size) = some cs.size)
    (h : wpList P ops Q rest (a.put d0 (.agg cs)) w) : wpList P ops Q (o :: rest) a w := by
  subst hdst
  exact wpList_wanted hgd fun _ hK => wp_load_row ty x ho g hx t cs fr d hg hu hd hi (hK _ _ h)
theorem wpList_buildToG {P : Program} {ops : Array Oper} {rest : List Oper} {o : Oper} {a : Act} {w : World} {Q : Exit → Act → World → Prop} (hg : Region.wanted o (yielded ops a.tmps) = true) (t : TypeId) (parts : Array (Nat × Operand)) (ho : o.op = .build t parts)
    (d : Option Tmp) (hd : o.dst = d) (cells : Array Value) (hf : P.built t (parts.map fun (i, x) => (i, a.eval x)).toList = some cells)
    (h : wpList P ops Q rest (a.put d (.agg cells)) w) : wpList P ops Q (o :: rest) a w := by
  subst hd
  exact wpList_wanted hg fun _ hK => wp_build t parts ho (by rw [hf]; rfl) (by rw [hf]; exact hK _ _ h)

end Go.Proofs.Ytgmjppjgbalapaa
