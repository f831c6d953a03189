/- Seal of package check. -/
import Derived.ArgAppend
import Derived.Deep.RegionWith
import Derived.Test.YtmjdmojommggjaaDoor03SumB
namespace Go.Proofs.YtmjdmojommggjaaDoor
open Go.RowKit
set_option linter.unusedVariables false

/-- A sealed record. -/
def sealL (l : List Int) : List Int := l ++ le4 (crc l)
theorem sealL_length (l : List Int) : (sealL l).length = l.length + 4 := by unfold sealL; rw [List.length_append, le4_length]

/-- Bytes are appended to a full slice that lies somewhere: a new row of the call's own. -/
theorem wpList_append_full {P : Program} {t e : TypeId} (E : Elem P t e) {w0 : World} {bs : List (Nat × Obj)} {ops : Array Oper} {rest : List Oper} {o : Oper} {a : Act} {Q : Exit → Act → World → Prop} (s : HeldW w0 bs)
    (sO xO : Operand) (hgd : o.guard = none) (ho : o.op = .call { callee := .builtin .append, args := #[sO, xO], argTypes := #[t, t] }) (ap : Option Addr) (l : List Int) (cap : Nat) (n : Nat) (hn : l.length = n) (hs : a.eval sO = .slice ap n n) (hb : BytesIn s.w ap l cap)
    (B : Nat) (m c : Nat) (news : List Int) (hm : m = news.length) (hx : a.eval xO = .slice (some ⟨B, 0, none⟩) m c) (hsrc : ∀ j u, (news.map (Value.int .u8))[j]? = some u → s.w.cell? ⟨B, j, none⟩ = some u) (hpos : 0 < m) (hlen : n + m ≤ 1099511627776)
    (H : ∀ v' (s' : OwnW w0 e v' ((l ++ news).map (Value.int .u8))), wpList P ops Q rest (a.put o.dst v') s'.w) : wpList P ops Q (o :: rest) a s.w := by
  subst hn; subst hm
  refine wpList_append_grows s.w hgd sO xO t ho e E.i E.z 1 E.bytes E.ht E.hi E.hz E.hsize E.hby E.hzs (by omega) ap l.length l.length (l.map (Value.int .u8)) hs ?_ (by simp) ?_ ⟨B, 0, none⟩ news.length c (news.map (Value.int .u8)) hx (by simp) ?_ (one_bytes _) (by omega) (by unfold maxLen; omega) ?_ ?_
  · intro h
    have := hb.nil h; have := hb.len; omega
  · intro b hb2 j u hu
    obtain ⟨b', o', h1, hc⟩ := hb.cells (by have := (List.getElem?_eq_some_iff.1 hu).1; rw [List.length_map] at this; omega)
    obtain rfl := Option.some.inj (hb2.symm.trans h1)
    have hj := (List.getElem?_eq_some_iff.1 hu).1
    rw [List.length_map] at hj
    rw [Addr.add_mid, hc j hj]
    rw [List.getElem?_map] at hu
    obtain ⟨x, hx, rfl⟩ := Option.map_eq_some_iff.1 hu
    rw [hx]; rfl
  · intro j u hu
    rw [Addr.add_mid, Nat.zero_add]
    exact hsrc j u hu
  · have h2 : (l.length + news.length) * E.bytes ≤ 1099511627776 * 8 := Nat.mul_le_mul hlen E.hb8
    omega
  · intro v' w' hown hgr
    refine H v' ⟨w', s.below.grown hgr s.below.size (fun k hk => by cases hk), ?_⟩
    rw [List.map_append, List.length_append, List.length_map, List.length_map]
    exact ⟨hown.1, hown.2.imp id (fun ⟨g, cap, cur, h1, h2, h3⟩ => ⟨g, cap, cur, h1, Nat.le_trans s.below.size h2, h3⟩)⟩

/-- Four new cells, behind a callee. -/
theorem fresh4 {w w1 : World} (h : Below (w.alloc (.cells #[.int .u8 0, .int .u8 0, .int .u8 0, .int .u8 0] 43)).drew.heap.size (w.alloc (.cells #[.int .u8 0, .int .u8 0, .int .u8 0, .int .u8 0] 43)).drew w1) :
    w1.heap[w.heap.size]? = some (.cells #[.int .u8 0, .int .u8 0, .int .u8 0, .int .u8 0] 43 (0, 0)) :=
  (h.block _ (by simp [World.drew])).trans (World.alloc_heap_new w _)
theorem cells4 {w1 : World} {b : Nat} {x0 x1 x2 x3 : Value} {t : TypeId} (h : w1.heap[b]? = some (.cells #[x0, x1, x2, x3] t (0, 0))) :
    (w1.cell? ⟨b, 0, none⟩ = some x0 ∧ w1.cell? ⟨b, 1, none⟩ = some x1 ∧ w1.cell? ⟨b, 2, none⟩ = some x2 ∧ w1.cell? ⟨b, 3, none⟩ = some x3) ∧
    (w1.frozen? ⟨b, 0, none⟩ = false ∧ w1.frozen? ⟨b, 1, none⟩ = false ∧ w1.frozen? ⟨b, 2, none⟩ = false ∧ w1.frozen? ⟨b, 3, none⟩ = false) :=
  ⟨⟨cell_of h 0, cell_of h 1, cell_of h 2, cell_of h 3⟩, free_of h 0, free_of h 1, free_of h 2, free_of h 3⟩

set_option maxRecDepth 100000 in
set_option maxHeartbeats 4000000 in
theorem cseal_any (l : List Int) (a : Option Addr) (cap : Nat) (w : World) (hT : Tab w) (hb : BytesIn w a l cap) (hm : l.length ≤ 1000000) : Calls Tryd.prog 13 #[.slice a l.length cap] w (MakesR 5 ((sealL l).map (Value.int .u8)) w) := by
  obtain ⟨E⟩ := elem_of (P := Tryd.prog) (t := 24) (e := 5) (z := .int .u8 0) (n := 1) Tryd.underlying24 (by kernel_rfl) rfl (by omega)
  have hcs : ∀ W, Below w.heap.size w W → Calls Tryd.prog 22 #[.slice a l.length cap] W (Gives (.agg (byteA (le4 (crc l)))) W) := fun W hB => by
    obtain ⟨s, rfl⟩ : ∃ s : HeldW w [], W = s.w := ⟨⟨W, hB, by simp⟩, rfl⟩
    exact csum_any l a cap s.w (hT.W s) (hb.W s)
  have HB := Lib.hid hb
  have hle : l.length ≤ cap := hb.len
  have hcap : cap ≤ 9223372036854775807 := hb.capb
  have HSL := Lib.hid (show sealL l = l ++ le4 (crc l) from rfl)
  generalize crc l = c at hcs HSL
  obtain ⟨x0, x1, x2, x3, hx⟩ : ∃ x0 x1 x2 x3, le4 c = [x0, x1, x2, x3] := ⟨_, _, _, _, rfl⟩
  rw [hx] at hcs
  have HCS := Lib.hid (show ∀ W, Below w.heap.size w W → Calls Tryd.prog 22 #[.slice a l.length cap] W (Gives (.agg #[.int .u8 x0, .int .u8 x1, .int .u8 x2, .int .u8 x3]) W) from hcs)
  rw [HSL.out, hx]
  obtain ⟨n, hn⟩ : ∃ n, n = l.length := ⟨_, rfl⟩
  rw [← hn] at HCS hle hm ⊢
  have HN := Lib.hid hn
  have hnil : a = none → cap = 0 := hb.nil
  clear hcs hT hb hn HSL hx
  go_enter Tryd.func13, Tryd.ntmps13
  go_wp2
  go_region_with (first
    | (go_at_call 22; refine (HCS.out _ ?_).mono ?_; exact (Below.refl _ w).drew; rintro e w1 ⟨rfl, hbl⟩)
    | (go_at_call 22; refine (HCS.out _ ?_).mono ?_; exact ((Below.refl _ w).alloc (Nat.le_refl _) _).drew; rintro e w1 ⟨rfl, hbl⟩; obtain ⟨⟨k0, k1, k2, k3⟩, f0, f1, f2, f3⟩ := cells4 (fresh4 hbl)))
  · obtain ⟨B, s, hB, hs⟩ : ∃ (B : Nat) (s : HeldW w [(B, .cells #[.int .u8 x0, .int .u8 x1, .int .u8 x2, .int .u8 x3] 43 (0, 0))]), B = w1.heap.size ∧ w1.alloc (.cells #[.int .u8 x0, .int .u8 x1, .int .u8 x2, .int .u8 x3] 43) = s.w :=
      ⟨_, (⟨w1, (Below.refl _ w).drew.trans hbl, by simp⟩ : HeldW w []).push _, rfl, rfl⟩
    rw [hs, ← hB]
    clear hs hB hbl
    have HSRC := Lib.hid (show ∀ j u, (([x0, x1, x2, x3] : List Int).map (Value.int .u8))[j]? = some u → s.w.cell? ⟨B, j, none⟩ = some u from fun j u hu => by
      rw [cell_of (s.blocks (_, _) List.mem_cons_self)]
      simpa using hu)
    go_wp2_with (refine wpList_append_full E s (.tmp 13) (.tmp 14) rfl rfl a l cap n HN.out.symm rfl (HB.out.W s) B 4 4 [x0, x1, x2, x3] rfl rfl HSRC.out (by omega) (by omega) ?_; intro v' s')
    go_ret
    exact ⟨_, rfl, s', rfl⟩
  · obtain ⟨B, s0, hB, hs⟩ : ∃ (B : Nat) (s : HeldW w [(B, .cells #[.int .u8 0, .int .u8 0, .int .u8 0, .int .u8 0] 43 (0, 0))]), B = w.heap.size ∧ w1 = s.w :=
      ⟨_, ⟨w1, ((Below.refl _ w).alloc (Nat.le_refl _) _).drew.trans (hbl.mono (by simp [World.drew])), all1 (fresh4 hbl)⟩, rfl, rfl⟩
    have hB2 : w.heap.size ≤ B := by omega
    rw [hs, ← hB]
    clear k0 k1 k2 k3 f0 f1 f2 f3 hbl
    obtain ⟨s, hs2⟩ : ∃ s : HeldW w [(B, .cells #[.int .u8 x0, .int .u8 x1, .int .u8 x2, .int .u8 x3] 43 (0, 0))], (((s0.w.setCell ⟨B, 0, none⟩ (.int .u8 x0)).setCell ⟨B, 1, none⟩ (.int .u8 x1)).setCell ⟨B, 2, none⟩ (.int .u8 x2)).setCell ⟨B, 3, none⟩ (.int .u8 x3) = s.w :=
      ⟨(((s0.store (i := 0) (v := .int .u8 x0) hB2 (by simp) rfl).store (i := 1) (v := .int .u8 x1) hB2 (by simp) rfl).store (i := 2) (v := .int .u8 x2) hB2 (by simp) rfl).store (i := 3) (v := .int .u8 x3) hB2 (by simp) rfl, rfl⟩
    rw [hs2]
    clear hs2 hs hB hB2 s0
    have HSRC := Lib.hid (show ∀ j u, (([x0, x1, x2, x3] : List Int).map (Value.int .u8))[j]? = some u → s.w.cell? ⟨B, j, none⟩ = some u from fun j u hu => by
      rw [cell_of (s.blocks (_, _) List.mem_cons_self)]
      simpa using hu)
    go_wp2_with (refine wpList_append_full E s (.tmp 13) (.tmp 14) rfl rfl a l cap n HN.out.symm rfl (HB.out.W s) B 4 4 [x0, x1, x2, x3] rfl rfl HSRC.out (by omega) (by omega) ?_; intro v' s')
    go_ret
    exact ⟨_, rfl, s', rfl⟩
end Go.Proofs.YtmjdmojommggjaaDoor
