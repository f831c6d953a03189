import Derived.Laws.AppendOwn
import Derived.Laws.OwnMore
import Derived.OwnWalk
import Derived.Test.YtgmjppjgbalapaaE09q1
import Derived.Laws.MakeOwn
import Derived.Laws.AppendOwnNone
import Derived.Test.YtgmjppjgbalapaaChecked
import Derived.ProofKit
import Derived.OpenShut
import Derived.ChangeOld
import Derived.Deep.Matrix
import Derived.Laws.Cover3
import Derived.BigQuiet
import Derived.Deep.QuietTactic
import Derived.LoopTactic
import Derived.Outline
import Derived.Shelf.Abstract
import Derived.WalkKit
import Derived.Lib.Hide
import Derived.Test.YtgmjppjgbalapaaProg
/- A slice that the call itself made, and appends to it. -/
namespace Go.Proofs.Ytgmjppjgbalapaa
open Go.RowKit
set_option linter.unusedVariables false

/-- A world in which nothing below w0's heap has changed, and the slice v owns the cells xs. -/
structure OwnW (w0 : World) (e : TypeId) (v : Value) (xs : List Value) where
  w : World
  below : Below w0.heap.size w0 w
  own : w.ownsRow w0.heap.size e 1 v xs.length xs

theorem OwnW.drewC {w0 : World} {e : TypeId} {v : Value} {xs : List Value} (s : OwnW w0 e v xs) : ∃ s' : OwnW w0 e v xs, s.w.drew = s'.w :=
  ⟨⟨s.w.drew, s.below.drew, s.own⟩, rfl⟩
theorem wp_region_O {P : Program} {id : Nat} {Q : Exit → Act → World → Prop} {a : Act} {l : List Oper} {w0 : World} {e : TypeId} {v : Value} {xs : List Value} (s : OwnW w0 e v xs) (hm : P.follows .mixedOrders = true) (hB : Region.lexB .any l.toArray = true)
    (H : Nonempty (OwnW w0 e v xs) → wpQuiet P l.toArray (fun w' => ∃ s : OwnW w0 e v xs, w' = s.w) (fun a' => ∀ w', (∃ s : OwnW w0 e v xs, w' = s.w) → Q .normal a' w') l a) : (Code.region id l.toArray true).wp P Q a s.w :=
  wp_region_inC _ hm hB s.drewC (H ⟨s⟩)
theorem wp_region_O_tail {P : Program} {id : Nat} {Q : Exit → Act → World → Prop} {a : Act} {l : List Oper} {w0 : World} {e : TypeId} {v : Value} {xs : List Value} (n : Nat) (s : OwnW w0 e v xs) (hm : P.follows .mixedOrders = true) (hB : Region.lexTailB .any l.toArray n = true)
    (H : Nonempty (OwnW w0 e v xs) → wpQuiet P l.toArray (fun w' => ∃ s : OwnW w0 e v xs, w' = s.w) (fun a' => ∀ w', (∃ s : OwnW w0 e v xs, w' = s.w) → wpList P l.toArray Q (l.drop n) a' w') (l.take n) a) : (Code.region id l.toArray true).wp P Q a s.w :=
  wp_region_inC_tail n _ hm hB s.drewC (H ⟨s⟩)

theorem wp_region_O_tail1 {P : Program} {id : Nat} {Q : Exit → Act → World → Prop} {a : Act} {o0 : Oper} {l : List Oper} {w0 : World} {e : TypeId} {v : Value} {xs : List Value} (n : Nat) (s : OwnW w0 e v xs) (x : Operand) (hx : o0.op = .move x) (hg : o0.guard = none)
    (hm : P.follows .mixedOrders = true) (hB : tail1B (o0 :: l) n = true) (hQ : ∀ c a' w', Q (.panic c) (a'.put o0.dst (a.eval x)) w' → Q (.panic c) a' w')
    (H : Nonempty (OwnW w0 e v xs) → wpQuiet P (o0 :: l).toArray (fun w' => ∃ s : OwnW w0 e v xs, w' = s.w) (fun a' => ∀ w', (∃ s : OwnW w0 e v xs, w' = s.w) → wpList P (o0 :: l).toArray Q ((o0 :: l).drop n) a' w') ((o0 :: l).take n) a) : (Code.region id (o0 :: l).toArray true).wp P Q a s.w :=
  wp_region_tail1 n _ x hx hg hm hB s.drewC hQ (H ⟨s⟩)

/-- A callee that changes nothing that was there. -/
theorem OwnW.call {P : Program} {f : FuncId} {args : Array Value} {u : Value} {w0 : World} {e : TypeId} {v : Value} {xs : List Value} {s : OwnW w0 e v xs} (h : Calls P f args s.w (Gives u s.w)) :
    Calls P f args s.w fun en w'' => en = .returned u ∧ ∃ s' : OwnW w0 e v xs, w'' = s'.w :=
  h.mono fun _ w'' ⟨he, hb⟩ => ⟨he, ⟨w'', s.below.trans (hb.mono s.below.size), by
    refine ⟨s.own.1, ?_⟩
    rcases s.own.2 with h0 | ⟨g, cap, cur, h1, h2, h3, h4⟩
    · exact .inl h0
    · exact .inr ⟨g, cap, cur, h1, h2, (hb.block _ (Array.getElem?_eq_some_iff.1 h3).1).trans h3, h4⟩⟩, rfl⟩

/-- What an element type must be. -/
structure Elem (P : Program) (t e : TypeId) where
  i : TypeInfo
  z : Value
  bytes : Nat
  ht : P.underlying t = some (.slice e)
  hi : P.info? e = some i
  hz : i.zero = some z
  hsize : i.size = 1
  hby : i.bytes = bytes
  hzs : z.cells.size = 1
  hb8 : bytes ≤ 8
theorem elem_of {P : Program} {t e : TypeId} {z : Value} {n : Nat} (ht : P.underlying t = some (.slice e)) (h : (P.info? e).map (fun i => (i.zero, i.size, i.bytes)) = some (some z, 1, n)) (hzs : z.cells.size = 1) (hb : n ≤ 8) : Nonempty (Elem P t e) := by
  obtain ⟨i, hi, he⟩ := Option.map_eq_some_iff.1 h
  simp only [Prod.mk.injEq] at he
  exact ⟨⟨i, z, n, ht, hi, he.1, he.2.1, he.2.2, hzs, hb⟩⟩

/-- Some elements of a new literal are appended. -/
theorem wpList_append_O {P : Program} {t e : TypeId} (E : Elem P t e) {w0 : World} {v : Value} {xs : List Value} {ops : Array Oper} {rest : List Oper} {o : Oper} {a : Act} {Q : Exit → Act → World → Prop} (s : OwnW w0 e v xs) (news : List Value) (cs : Array Value) (hcs : cs = news.toArray)
    (sO xO : Operand) (hgd : o.guard = none) (ho : o.op = .call { callee := .builtin .append, args := #[sO, xO], argTypes := #[t, t] }) (hs : a.eval sO = v) (m c : Nat) (hm : m = news.length) (hx : a.eval xO = .slice (some ⟨s.w.heap.size, 0, none⟩) m c)
    (h1 : ∀ u ∈ news, u.oneCell' = true) (hlen : xs.length + news.length ≤ 1099511627776)
    (H : ∀ v' (s' : OwnW w0 e v' (xs ++ news)), wpList P ops Q rest (a.put o.dst v') s'.w) :
    wpList P ops Q (o :: rest) a (s.w.alloc (.cells cs e)) := by
  subst hm; subst hcs
  refine wpList_append_own _ hgd sO xO t ho w0.heap.size e E.i E.z 1 E.bytes E.ht E.hi E.hz E.hsize E.hby E.hzs (by omega) v xs.length xs hs (s.own.alloc _) ⟨s.w.heap.size, 0, none⟩ news.length c news hx (by omega) ?_ h1 (by unfold maxLen; omega) ?_ (by simp; exact Nat.le_succ_of_le s.below.size) ?_
  · intro j u hu
    have hadd : (⟨s.w.heap.size, 0, none⟩ : Addr).add j = ⟨s.w.heap.size, j, none⟩ := by rw [Addr.add_mid, Nat.zero_add]
    rw [hadd, cell_of (World.alloc_heap_new s.w _)]
    simpa using hu
  · have h2 : (xs.length + news.length) * E.bytes ≤ 1099511627776 * 8 := Nat.mul_le_mul hlen E.hb8
    omega
  · intro v' w' hown hgr _
    have hb : Below w0.heap.size w0 (s.w.alloc (.cells news.toArray e)) := s.below.alloc s.below.size _
    refine H v' ⟨w', hb.grown hgr (by have := s.below.size; simp; omega) (fun k hk => (s.own.lt k hk).1), ?_⟩
    rw [List.length_append]
    exact hown

def OwnW.as {w0 : World} {e : TypeId} {v : Value} {xs xs' : List Value} (s : OwnW w0 e v xs) (h : xs = xs') : OwnW w0 e v xs' := ⟨s.w, s.below, h ▸ s.own⟩
/-- The cells of an owned slice. -/
theorem OwnW.row {w0 : World} {e : TypeId} {v : Value} {xs : List Value} (s : OwnW w0 e v xs) (n : Nat) (hn : xs.length = n) (h : 0 < n) : ∃ g cap, v = .slice (some ⟨g, 0, none⟩) n cap ∧ w0.heap.size ≤ g ∧ n ≤ cap ∧ cap ≤ maxLen ∧
    (∀ j u, xs[j]? = some u → s.w.cell? ⟨g, j, none⟩ = some u) := by
  subst hn
  rcases s.own.2 with ⟨_, h0⟩ | ⟨g, cap, cur, rfl, hg, hb, hc, hm, _, ht⟩
  · omega
  · refine ⟨g, cap, rfl, hg, hc, hm, fun j u hu => ?_⟩
    have := s.own.cells (g := g) rfl j u hu
    rwa [Addr.add_mid, Nat.zero_add] at this
theorem OwnW.all {w0 : World} {e : TypeId} {g n cap : Nat} {xs : List Value} (s : OwnW w0 e (.slice (some ⟨g, 0, none⟩) n cap) xs) (j : Nat) (u : Value) (hu : xs[j]? = some u) : s.w.cell? ⟨g, j, none⟩ = some u := by
  have := s.own.cells (g := g) rfl j u hu
  rwa [Addr.add_mid, Nat.zero_add] at this
end Go.Proofs.Ytgmjppjgbalapaa

/- Bytes and slices of bytes: cells, what came in, what the call itself made; words that every layer uses. -/
namespace Go.Proofs.Ytgmjppjgbalapaa
open Go.RowKit
set_option linter.unusedVariables false

/-- How long a slice is. -/
def lenOf : Value → Nat
  | .slice _ n _ => n
  | _ => 0

theorem one_bytes (l : List Int) : ∀ v ∈ l.map (Value.int .u8), v.oneCell' = true := fun v hv => by obtain ⟨n, _, rfl⟩ := List.mem_map.1 hv; rfl

/-- A slice of bytes outside of block h. -/
def Src (w : World) (h : Nat) (a : Option Addr) (l : List Int) : Prop := 0 < l.length → ∃ b o, a = some ⟨b, o, none⟩ ∧ b ≠ h ∧ ∀ i, i < l.length → w.cell? ⟨b, o + i, none⟩ = some (.int .u8 (l[i]?.getD 0))

theorem ret_i {k : IntKind} {a b : Int} (h : a = b) : Ending.returned (.int k a) = .returned (.int k b) := by rw [h]

/-- The i-th part. -/
def partOf (ls : List (List Int)) (i : Nat) : List Int := ls[i]?.getD []

/-- A slice of slices of bytes outside of block h. -/
def PartsAt (w : World) (h : Nat) (pa : Option Addr) (ls : List (List Int)) : Prop := 0 < ls.length → ∃ b o, pa = some ⟨b, o, none⟩ ∧ b ≠ h ∧ ∀ i, i < ls.length →
  ∃ a cap, w.cell? ⟨b, o + i, none⟩ = some (.slice a (partOf ls i).length cap) ∧ (partOf ls i).length ≤ cap ∧ cap ≤ 9223372036854775807 ∧ Src w h a (partOf ls i)

theorem take_flat (ls : List (List Int)) {k : Nat} (hk : k < ls.length) : (ls.take (k + 1)).flatten = (ls.take k).flatten ++ partOf ls k := by
  rw [List.take_succ_eq_append_getElem hk, List.flatten_append]
  unfold partOf
  rw [List.getElem?_eq_getElem hk]
  simp

theorem take_flat_le (ls : List (List Int)) (k : Nat) : (ls.take k).flatten.length ≤ ls.flatten.length := by
  conv => rhs; rw [← List.take_append_drop k ls, List.flatten_append, List.length_append]
  omega

/-- Bytes as cells. -/
def byteA (l : List Int) : Array Value := (l.map (Value.int .u8)).toArray

theorem byteA_get (l : List Int) {i : Nat} (h : i < l.length) : (byteA l)[i]? = some (.int .u8 (l[i]?.getD 0)) := by
  unfold byteA; rw [List.getElem?_toArray, List.getElem?_map, List.getElem?_eq_getElem h]; rfl

theorem byteA_set (l : List Int) (i : Nat) (v : Int) : (byteA l).setIfInBounds i (.int .u8 v) = byteA (l.set i v) := by
  unfold byteA; apply Array.toList_inj.1; rw [Array.toList_setIfInBounds]; simp only [List.map_set]

theorem byteA_one (l : List Int) : (byteA l).all (·.oneCell') = true := by
  rw [Array.all_eq_true_iff_forall_mem]
  intro v hv
  unfold byteA at hv
  rw [List.mem_toArray] at hv
  exact one_bytes l v hv

theorem byteA_size (l : List Int) : (byteA l).size = l.length := by unfold byteA; simp

theorem made_zero (k : Nat) : madeCells (Value.int .u8 0).cells (k * 1) = byteA (List.replicate k 0) := by
  apply Array.ext_getElem?
  intro i
  unfold madeCells byteA
  rw [Nat.mul_one]
  by_cases h : i < k
  · simp [h, Value.cells, Nat.mod_one]
  · simp [h]

theorem make_cap (l k : Nat) (hl : l ≤ k) (hk : k ≤ 1000) (w : World) : (Instr.makeSlice 24 (.int .i64 (l : Int)) (.int .i64 (k : Int))).run Try.prog w = .ok (.slice (some ⟨w.heap.size, 0, none⟩) l k) (w.alloc (.cells (byteA (List.replicate k 0)) 5)) := by
  have hi : ∃ i, Try.prog.info? 5 = some i ∧ i.zero = some (.int .u8 0) ∧ i.size = 1 ∧ i.bytes = 1 := by
    have h : (Try.prog.info? 5).map (fun i => (i.zero, i.size, i.bytes)) = some (some (.int .u8 0), 1, 1) := by kernel_rfl
    obtain ⟨i, hi, he⟩ := Option.map_eq_some_iff.1 h
    simp only [Prod.mk.injEq] at he
    exact ⟨i, hi, he.1, he.2.1, he.2.2⟩
  obtain ⟨i, hi, hz, hs, hb⟩ := hi
  rw [run_make w 24 5 i _ Try.underlying24 hi hz .i64 .i64 l k (by omega) (by omega) (by rw [hb]; omega) (by omega)]
  rw [hs, Int.toNat_natCast, Int.toNat_natCast, made_zero]

theorem make_bytes (k : Nat) (hk : k ≤ 1000) (w : World) : (Instr.makeSlice 24 (.int .i64 (k : Int)) (.int .i64 (k : Int))).run Try.prog w = .ok (.slice (some ⟨w.heap.size, 0, none⟩) k k) (w.alloc (.cells (byteA (List.replicate k 0)) 5)) := make_cap k k (Nat.le_refl _) hk w

/-- One part. -/
theorem parts1 {w : World} {g b cap : Nat} {a : Option Addr} {l : List Int} {t : TypeId} {fr : Nat × Nat} (hb : w.heap[b]? = some (.cells #[.slice a l.length cap] t fr)) (hg : b ≠ g) (hcap : l.length ≤ cap) (hcap2 : cap ≤ 9223372036854775807) (hs : Src w g a l) : PartsAt w g (some ⟨b, 0, none⟩) [l] :=
  fun _ => ⟨b, 0, rfl, hg, fun i hi => by
    obtain rfl : i = 0 := by simp at hi; omega
    exact ⟨a, cap, by rw [cell_of_row w b _ _ _ _ hb]; rfl, hcap, hcap2, hs⟩⟩

/-- Two parts. -/
theorem parts2 {w : World} {g b cap cap' : Nat} {a a' : Option Addr} {l l' : List Int} {t : TypeId} {fr : Nat × Nat} (hb : w.heap[b]? = some (.cells #[.slice a l.length cap, .slice a' l'.length cap'] t fr)) (hg : b ≠ g) (hcap : l.length ≤ cap) (hcap2 : cap ≤ 9223372036854775807) (hs : Src w g a l)
    (hcap' : l'.length ≤ cap') (hcap2' : cap' ≤ 9223372036854775807) (hs' : Src w g a' l') : PartsAt w g (some ⟨b, 0, none⟩) [l, l'] :=
  fun _ => ⟨b, 0, rfl, hg, fun i hi => by
    have : i = 0 ∨ i = 1 := by simp at hi; omega
    rcases this with rfl | rfl
    · exact ⟨a, cap, by rw [cell_of_row w b _ _ _ _ hb]; rfl, hcap, hcap2, hs⟩
    · exact ⟨a', cap', by rw [cell_of_row w b _ _ _ _ hb]; rfl, hcap', hcap2', hs'⟩⟩

/-- A slice of bytes that came in. -/
structure BytesIn (w : World) (a : Option Addr) (l : List Int) (cap : Nat) : Prop where
  len : l.length ≤ cap
  capb : cap ≤ 9223372036854775807
  cells : 0 < l.length → ∃ b o, a = some ⟨b, o, none⟩ ∧ ∀ i, i < l.length → w.cell? ⟨b, o + i, none⟩ = some (.int .u8 (l[i]?.getD 0))
  nil : a = none → cap = 0

theorem BytesIn.src {w : World} {a : Option Addr} {l : List Int} {cap : Nat} (h : BytesIn w a l cap) {g : Nat} (hg : w.heap.size ≤ g) : Src w g a l := fun hp => by
  obtain ⟨b, o, rfl, hc⟩ := h.cells hp
  have := World.block_lt_of_cell? w _ (hc 0 hp)
  exact ⟨b, o, rfl, by simp only at this; omega, hc⟩

/-- Bytes that lie somewhere are appended to a slice of the call's own. -/
theorem wpList_append_srcB {P : Program} {t e : TypeId} (E : Elem P t e) {w0 : World} {v : Value} {xs : List Value} {ops : Array Oper} {rest : List Oper} {o : Oper} {a : Act} {Q : Exit → Act → World → Prop} (s : OwnW w0 e v xs) (news : List Value)
    (sO xO : Operand) (hgd : o.guard = none) (ho : o.op = .call { callee := .builtin .append, args := #[sO, xO], argTypes := #[t, t] }) (hs : a.eval sO = v) (sp : Option Addr) (m c : Nat) (hm : m = news.length) (hx : a.eval xO = .slice sp m c)
    (hnil : sp = none → m = 0 ∧ c = 0) (hsrc : ∀ ad, sp = some ad → ∀ j u, news[j]? = some u → s.w.cell? (ad.add j) = some u)
    (h1 : ∀ u ∈ news, u.oneCell' = true) (hbytes : (xs.length + news.length) * E.bytes ≤ 140737488355328) (h63 : xs.length + news.length ≤ maxLen)
    (H : ∀ v' (s' : OwnW w0 e v' (xs ++ news)), wpList P ops Q rest (a.put o.dst v') s'.w) :
    wpList P ops Q (o :: rest) a s.w := by
  subst hm
  cases sp with
  | none =>
    obtain ⟨h0, rfl⟩ := hnil rfl
    obtain rfl := List.eq_nil_of_length_eq_zero h0
    refine wpList_append_own_none hgd sO xO t ho w0.heap.size e E.i 1 E.ht E.hi v xs.length xs hs s.own (by simpa using hx) ?_
    have hH : ∀ (ys : List Value) (hy : xs ++ [] = ys) (s2 : OwnW w0 e v ys), wpList P ops Q rest (a.put o.dst v) s2.w := fun ys hy s2 => by subst hy; exact H v s2
    exact hH xs (by simp) s
  | some ad =>
    refine wpList_append_own _ hgd sO xO t ho w0.heap.size e E.i E.z 1 E.bytes E.ht E.hi E.hz E.hsize E.hby E.hzs (by omega) v xs.length xs hs s.own ad news.length c news hx (by omega) (hsrc ad rfl) h1 h63 hbytes s.below.size ?_
    · intro v' w' hown hgr _
      refine H v' ⟨w', s.below.grown hgr s.below.size (fun k hk => (s.own.lt k hk).1), ?_⟩
      rw [List.length_append]
      exact hown

/-- The same, for what is not too long, of whatever element. -/
theorem wpList_append_src {P : Program} {t e : TypeId} (E : Elem P t e) {w0 : World} {v : Value} {xs : List Value} {ops : Array Oper} {rest : List Oper} {o : Oper} {a : Act} {Q : Exit → Act → World → Prop} (s : OwnW w0 e v xs) (news : List Value)
    (sO xO : Operand) (hgd : o.guard = none) (ho : o.op = .call { callee := .builtin .append, args := #[sO, xO], argTypes := #[t, t] }) (hs : a.eval sO = v) (sp : Option Addr) (m c : Nat) (hm : m = news.length) (hx : a.eval xO = .slice sp m c)
    (hnil : sp = none → m = 0 ∧ c = 0) (hsrc : ∀ ad, sp = some ad → ∀ j u, news[j]? = some u → s.w.cell? (ad.add j) = some u)
    (h1 : ∀ u ∈ news, u.oneCell' = true) (hlen : xs.length + news.length ≤ 1099511627776)
    (H : ∀ v' (s' : OwnW w0 e v' (xs ++ news)), wpList P ops Q rest (a.put o.dst v') s'.w) :
    wpList P ops Q (o :: rest) a s.w :=
  wpList_append_srcB E s news sO xO hgd ho hs sp m c hm hx hnil hsrc h1 (by
    have h2 : (xs.length + news.length) * E.bytes ≤ 1099511627776 * 8 := Nat.mul_le_mul hlen E.hb8
    omega) (by unfold maxLen; omega) H

/-- Bytes have one byte. -/
theorem elem8 : ∃ E : Elem Try.prog 24 5, E.bytes = 1 := by
  have h : (Try.prog.info? 5).map (fun i => (i.zero, i.size, i.bytes)) = some (some (.int .u8 0), 1, 1) := by kernel_rfl
  obtain ⟨i, hi, he⟩ := Option.map_eq_some_iff.1 h
  simp only [Prod.mk.injEq] at he
  exact ⟨⟨i, .int .u8 0, 1, Try.underlying24, hi, he.1, he.2.1, he.2.2, rfl, by omega⟩, rfl⟩

/-- What an owned slice looks like. -/
theorem OwnW.view {w0 : World} {e : TypeId} {v : Value} {xs : List Value} (s : OwnW w0 e v xs) (n : Nat) (hn : xs.length = n) : ∃ (a : Option Addr) (cap : Nat), v = .slice a n cap ∧ n ≤ cap ∧ cap ≤ 9223372036854775807 ∧
    Hid (0 < n → ∃ (g : Nat) (cur : Array Value), a = some ⟨g, 0, none⟩ ∧ w0.heap.size ≤ g ∧ s.w.heap[g]? = some (.cells cur e (0, 0)) ∧ ∀ (j : Nat) (u : Value), xs[j]? = some u → cur[j]? = some u) := by
  subst hn
  rcases s.own.2 with ⟨h1, h0⟩ | ⟨g, cap, cur, rfl, hg, hb, hc, hm, _, ht⟩
  · exact ⟨none, 0, by rw [h1, h0], by omega, by omega, fun h => by omega⟩
  · refine ⟨_, cap, rfl, hc, by unfold maxLen at hm; omega, fun _ => ⟨g, cur, rfl, hg, hb, fun j u hu => ?_⟩⟩
    have := s.own.cells (g := g) rfl j u hu
    rw [Addr.add_mid, Nat.zero_add, cell_of hb] at this
    exact this

/-- An empty literal. -/
theorem own_empty (w : World) : ∃ s : OwnW w 5 (.slice (some ⟨w.heap.size, 0, none⟩) 0 0) [], w.alloc (.cells #[] 5) = s.w :=
  ⟨⟨_, (Below.refl _ w).alloc (Nat.le_refl _) _, by
    have := World.ownsRow_made (base := w.heap.size) (e := 5) (size := 1) w #[] 0 (Nat.le_refl _) (by unfold maxLen; omega) rfl
    simpa using this⟩, rfl⟩

/-- A slice of slices of bytes that came in. -/
structure PartsIn (w : World) (pa : Option Addr) (ls : List (List Int)) : Prop where
  len : ls.length ≤ 9223372036854775807
  cells : 0 < ls.length → ∃ b o, pa = some ⟨b, o, none⟩ ∧ ∀ i, i < ls.length → ∃ a cap, w.cell? ⟨b, o + i, none⟩ = some (.slice a (partOf ls i).length cap) ∧ BytesIn w a (partOf ls i) cap

theorem PartsIn.at {w : World} {pa : Option Addr} {ls : List (List Int)} (h : PartsIn w pa ls) {g : Nat} (hg : w.heap.size ≤ g) : PartsAt w g pa ls := fun hp => by
  obtain ⟨b, o, rfl, hc⟩ := h.cells hp
  refine ⟨b, o, rfl, ?_, fun i hi => ?_⟩
  · obtain ⟨a, cap, h1, _⟩ := hc 0 hp
    have := World.block_lt_of_cell? w _ h1
    simp only at this
    omega
  · obtain ⟨a, cap, h1, h2⟩ := hc i hi
    exact ⟨a, cap, h1, h2.len, h2.capb, h2.src hg⟩

/-- An owned slice, its block listed. -/
theorem OwnW.held {w : World} {e : TypeId} {v : Value} {xs : List Value} (s : OwnW w e v xs) (n : Nat) (hn : xs.length = n) : ∃ (a : Option Addr) (cap : Nat) (bsx : List (Nat × Obj)), v = .slice a n cap ∧ n ≤ cap ∧ cap ≤ 9223372036854775807 ∧
    Hid (0 < n → ∃ (g : Nat) (cur : Array Value), a = some ⟨g, 0, none⟩ ∧ w.heap.size ≤ g ∧ bsx = [(g, .cells cur e (0, 0))] ∧ ∀ (j : Nat) (u : Value), xs[j]? = some u → cur[j]? = some u) ∧ ∃ s3 : HeldW w bsx, s.w = s3.w := by
  obtain ⟨a, cap, hv, h1, h2, hrow⟩ := s.view n hn
  by_cases h : 0 < n
  · obtain ⟨g, cur, ha, hg, hb, hc⟩ := hrow.out h
    exact ⟨a, cap, [(g, .cells cur e (0, 0))], hv, h1, h2, fun _ => ⟨g, cur, ha, hg, rfl, hc⟩, ⟨s.w, s.below, all1 hb⟩, rfl⟩
  · exact ⟨a, cap, [], hv, h1, h2, fun h' => absurd h' h, ⟨s.w, s.below, by simp⟩, rfl⟩

/-- A load that yields the same value in every world of a class goes as that value. -/
theorem quiet_load {P : Program} {ops : Array Oper} {C : World → Prop} {Q : Act → Prop} {a : Act} {rest : List Oper} {dst : Option Tmp} {type : TypeId} {pos : String} {after : Array Edge} {guard : Option (Nat × Bool)} (ty : TypeId) (x : Operand) (v : Value) (w : World) (hw : C w)
    (hl : ∀ w, C w → (Instr.loadAt ty (a.eval x)).run P w = .ok v w)
    (h : wpQuiet P ops C Q (⟨dst, .assign (.const v), type, pos, after, guard⟩ :: rest) a) : wpQuiet P ops C Q (⟨dst, .load ty x, type, pos, after, guard⟩ :: rest) a := by
  unfold wpQuiet at h ⊢
  by_cases hg : Region.wanted ⟨dst, .load ty x, type, pos, after, guard⟩ (yielded ops a.tmps) = true
  · rw [if_pos hg]
    rw [if_pos (show Region.wanted ⟨dst, .assign (.const v), type, pos, after, guard⟩ (yielded ops a.tmps) = true from hg)] at h
    obtain ⟨u, h1, h2⟩ := h
    have h3 := h1 w hw
    have hu : v = u := by
      unfold Oper.quietAt execOp at h3
      simp [Oper.quietUpon, Act.eval] at h3
      exact h3
    subst hu
    exact ⟨v, fun w' hw' => by
      unfold Oper.quietAt execOp
      simp only [Sem.run_bind, hl w' hw', Result.andThen_ok, Sem.run_pure, Oper.quietUpon]
      exact ⟨trivial, trivial⟩, h2⟩
  · rw [if_neg hg]
    rw [if_neg (show ¬ Region.wanted ⟨dst, .assign (.const v), type, pos, after, guard⟩ (yielded ops a.tmps) = true from hg)] at h
    exact h

/-- A slice of its own that a callee has made behind listed blocks: one more listed block. -/
theorem HeldW.own {w : World} {bs : List (Nat × Obj)} (s1 : HeldW w bs) {e : TypeId} {v : Value} {xs : List Value} (s : OwnW s1.w e v xs) (n : Nat) (hn : xs.length = n) (hp : 0 < n) :
    ∃ (g cap : Nat) (cur : Array Value), v = .slice (some ⟨g, 0, none⟩) n cap ∧ n ≤ cap ∧ cap ≤ 9223372036854775807 ∧ w.heap.size ≤ g ∧ Hid (∀ p ∈ bs, p.1 ≠ g) ∧ Hid (∀ (j : Nat) (u : Value), xs[j]? = some u → cur[j]? = some u) ∧ ∃ s2 : HeldW w ((g, .cells cur e (0, 0)) :: bs), s.w = s2.w := by
  obtain ⟨a, cap, rfl, h1, h2, hrow⟩ := s.view n hn
  obtain ⟨g, cur, rfl, hg, hb, hc⟩ := hrow.out hp
  refine ⟨g, cap, cur, rfl, h1, h2, Nat.le_trans s1.below.size hg, fun p hp => ?_, hc, ⟨s.w, s1.below.trans (s.below.mono s1.below.size), List.forall_mem_cons.2 ⟨hb, fun p hp => ?_⟩⟩, rfl⟩
  · have := (Array.getElem?_eq_some_iff.1 (s1.blocks p hp)).1
    omega
  · exact (s.below.block _ (Array.getElem?_eq_some_iff.1 (s1.blocks p hp)).1).trans (s1.blocks p hp)

/-- It returns a new slice of its own. -/
def MakesR (e : TypeId) (xs : List Value) (w : World) (en : Ending) (w' : World) : Prop := ∃ v, en = .returned v ∧ ∃ s : OwnW w e v xs, w' = s.w

theorem BytesIn.W {w : World} {a : Option Addr} {l : List Int} {cap : Nat} (h : BytesIn w a l cap) {bs : List (Nat × Obj)} (s : HeldW w bs) : BytesIn s.w a l cap := ⟨h.len, h.capb, fun hp => by
    obtain ⟨b, o, h1, h2⟩ := h.cells hp
    exact ⟨b, o, h1, fun i hi => (s.below.cell (p := ⟨b, o + i, none⟩) (World.block_lt_of_cell? _ _ (h2 i hi))).trans (h2 i hi)⟩, h.nil⟩

/-- Behind listed blocks. -/
theorem OwnW.on {w : World} {bs : List (Nat × Obj)} (s : HeldW w bs) {e : TypeId} {v : Value} {xs : List Value} (o : OwnW s.w e v xs) : ∃ s' : HeldW w bs, o.w = s'.w :=
  ⟨⟨o.w, s.below.trans (o.below.mono s.below.size), fun p hp => (o.below.block _ (Array.getElem?_eq_some_iff.1 (s.blocks p hp)).1).trans (s.blocks p hp)⟩, rfl⟩
end Go.Proofs.Ytgmjppjgbalapaa

/- Slices of bytes, and slices of them, that came in, opened. -/
namespace Go.Proofs.Ytgmjppjgbalapaa
open Go.ChangeShapes Go.WideShapes Go.RowKit Go.Deep
set_option linter.unusedVariables false

/-- Bytes within their bounds. -/
def OkB (l : List Int) : Prop := ∀ x ∈ l, 0 ≤ x ∧ x < 256
theorem open_bytes_wf {H : Type} {enc : TypeId × Value → H} {w : World} {base : Nat} {held : Bool} {a : Option Addr} {len cap : Nat} {d : DataW H} {p : List MemPlace}
    (h : DataW.Trod enc Try.prog w base (fun _ => true) held 24 (.slice a len cap) d p) : ∃ l : List Int, l.length = len ∧ BytesIn w a l cap ∧ OkB l := by
  obtain ⟨fuel, hf⟩ := h
  rcases open_ints Try.underlying24 Try.underlying5 (by kernel_rfl) hf with ⟨hcs, _⟩ | ⟨ad, len', cap', zs, hcs, _, hl, hm, hz, _, hc, hwz⟩
  · simp [Value.cells] at hcs
    obtain ⟨rfl, rfl, rfl⟩ := hcs
    exact ⟨[], rfl, ⟨by simp, by omega, fun h => absurd h (by simp), fun _ => rfl⟩, fun x hx => absurd hx (by simp)⟩
  · simp [Value.cells] at hcs
    obtain ⟨rfl, rfl, rfl⟩ := hcs
    simp at hz
    refine ⟨zs.take len, by rw [List.length_take]; omega, ⟨by rw [List.length_take]; omega, by unfold maxLen at hm; omega, fun h0 => ?_, fun h => by cases h⟩, fun x hx => ?_⟩
    · rw [List.length_take] at h0
      obtain ⟨b, o, s⟩ := ad
      have hsp : s = none := by simpa [Addr.add] using World.cell?_spot (hc 0 (by omega))
      subst hsp
      refine ⟨b, o, rfl, fun i hi => ?_⟩
      rw [List.length_take] at hi
      have := hc i (by omega)
      rw [Addr.add_mid] at this
      rw [this, List.getElem?_take, if_pos (by omega), List.getD]
    · have := bounds_u8 (hwz x (List.mem_of_mem_take hx))
      omega
theorem open_bytes {H : Type} {enc : TypeId × Value → H} {w : World} {base : Nat} {held : Bool} {a : Option Addr} {len cap : Nat} {d : DataW H} {p : List MemPlace}
    (h : DataW.Trod enc Try.prog w base (fun _ => true) held 24 (.slice a len cap) d p) : ∃ l : List Int, l.length = len ∧ BytesIn w a l cap := by
  obtain ⟨l, h1, h2, _⟩ := open_bytes_wf h
  exact ⟨l, h1, h2⟩
theorem open_parts {H : Type} {enc : TypeId × Value → H} {w : World} {base : Nat} {held : Bool} {a : Option Addr} {len cap : Nat} {d : DataW H} {p : List MemPlace}
    (h : DataW.Trod enc Try.prog w base (fun _ => true) held 102 (.slice a len cap) d p) : ∃ ls : List (List Int), ls.length = len ∧ PartsIn w a ls := by
  obtain ⟨fuel, hf⟩ := h
  rcases open_int_rows Try.underlying102 Try.underlying24 Try.underlying5 (by kernel_rfl) (by kernel_rfl) hf with ⟨hcs, _⟩ | ⟨ad, len', cap', A, L, C, Z, hcs, _, hl, hm, _, hr⟩
  · simp [Value.cells] at hcs
    obtain ⟨rfl, rfl, rfl⟩ := hcs
    exact ⟨[], rfl, ⟨by simp, fun h => absurd h (by simp)⟩⟩
  · simp [Value.cells] at hcs
    obtain ⟨rfl, rfl, rfl⟩ := hcs
    refine ⟨(List.range len).map fun r => (Z r).take (L r), by simp, ⟨by simp; unfold maxLen at hm; omega, fun h0 => ?_⟩⟩
    have hlen : ((List.range len).map fun r => (Z r).take (L r)).length = len := by simp
    rw [hlen] at h0
    obtain ⟨b, o, s⟩ := ad
    have hsp : s = none := by simpa [Addr.add] using World.cell?_spot (hr 0 (by omega)).1
    subst hsp
    refine ⟨b, o, rfl, fun i hi => ?_⟩
    rw [hlen] at hi
    obtain ⟨h1, h2, h3, h4, _, h6, h7⟩ := hr i (by omega)
    rw [Addr.add_mid] at h1
    have hp : partOf ((List.range len).map fun r => (Z r).take (L r)) i = (Z i).take (L i) := by
      unfold partOf
      rw [List.getElem?_map, List.getElem?_range hi]
      rfl
    have hpl : ((Z i).take (L i)).length = L i := by rw [List.length_take]; omega
    rw [hp, hpl]
    refine ⟨A i, C i, h1, ⟨by rw [hpl]; exact h2, by unfold maxLen at h3; omega, fun hz => ?_, h6⟩⟩
    rw [hpl] at hz
    cases hA : A i with
    | none => have := h6 hA; omega
    | some a' =>
      obtain ⟨_, hc⟩ := h7 a' hA
      obtain ⟨b', o', s'⟩ := a'
      have hsp : s' = none := by simpa [Addr.add] using World.cell?_spot (hc 0 (by omega))
      subst hsp
      refine ⟨b', o', rfl, fun j hj => ?_⟩
      rw [hpl] at hj
      have := hc j (by omega)
      rw [Addr.add_mid] at this
      rw [this, List.getElem?_take, if_pos hj, List.getD]
end Go.Proofs.Ytgmjppjgbalapaa

/- slices.Clone of bytes. -/
namespace Go.Proofs.Ytgmjppjgbalapaa
open Go.RowKit
set_option linter.unusedVariables false

/-- What wpList_append_src wants of a slice that came in. -/
theorem BytesIn.nil2 {w : World} {a : Option Addr} {l : List Int} {cap : Nat} (h : BytesIn w a l cap) {n : Nat} (hn : n = l.length) : a = none → n = 0 ∧ cap = 0 := fun h0 => by
  have := h.nil h0; have := h.len; omega
theorem BytesIn.news {w : World} {a : Option Addr} {l : List Int} {cap : Nat} (h : BytesIn w a l cap) : ∀ ad, a = some ad → ∀ j u, (l.map (Value.int .u8))[j]? = some u → w.cell? (ad.add j) = some u := fun ad had j u hu => by
  have hj := (List.getElem?_eq_some_iff.1 hu).1
  rw [List.length_map] at hj
  obtain ⟨b, o, h1, hc⟩ := h.cells (by omega)
  obtain rfl := Option.some.inj (had.symm.trans h1)
  rw [Addr.add_mid, hc j hj]
  rw [List.getElem?_map] at hu
  obtain ⟨x, hx, rfl⟩ := Option.map_eq_some_iff.1 hu
  rw [hx]; rfl
theorem BytesIn.below {w w' : World} {a : Option Addr} {l : List Int} {cap : Nat} (h : BytesIn w a l cap) (hb : Below w.heap.size w w') : BytesIn w' a l cap := h.W (bs := []) ⟨w', hb, by simp⟩

/-- An owned slice of bytes can be read. -/
theorem OwnW.bytes {w0 : World} {e : TypeId} {v : Value} {l : List Int} (s : OwnW w0 e v (l.map (Value.int .u8))) : ∃ (a : Option Addr) (cap : Nat), v = .slice a l.length cap ∧ BytesIn s.w a l cap := by
  have hl : (l.map (Value.int .u8)).length = l.length := List.length_map _
  rcases s.own.2 with ⟨h1, h0⟩ | ⟨g, cap, cur, hv, hg, hb, hc, hm, _, ht⟩
  · rw [hl] at h0
    obtain rfl := List.eq_nil_of_length_eq_zero h0
    exact ⟨none, 0, h1, by simp, by omega, fun h => absurd h (by simp), fun _ => rfl⟩
  · rw [hl] at hv hc
    subst hv
    refine ⟨_, cap, rfl, hc, by unfold maxLen at hm; omega, fun hp => ⟨g, 0, rfl, fun i hi => ?_⟩, fun h => by cases h⟩
    have hown := s.own.cells (g := g) rfl i (.int .u8 (l[i]?.getD 0)) (by rw [List.getElem?_map, List.getElem?_eq_getElem hi]; rfl)
    rwa [Addr.add_mid] at hown
theorem OwnW.bytesN {w0 : World} {e : TypeId} {v : Value} {l : List Int} (s : OwnW w0 e v (l.map (Value.int .u8))) {n : Nat} (hn : l.length = n) : ∃ (a : Option Addr) (cap : Nat), v = .slice a n cap ∧ BytesIn s.w a l cap := by subst hn; exact s.bytes
/-- A literal of bytes that a string shares. -/
theorem lit_bytes {w : World} {l : List Int} {n : Nat} (hn : l.length = n) (hl : l.length ≤ 9223372036854775807) : BytesIn (w.alloc (.cells (byteA l) 5 (n, n + 1))) (some ⟨w.heap.size, 0, none⟩) l n := by
  subst hn
  exact ⟨Nat.le_refl _, hl, fun _ => ⟨w.heap.size, 0, rfl, fun i hi => by rw [Nat.zero_add, cell_of_row _ w.heap.size _ _ _ _ (World.alloc_heap_new w _), byteA_get l hi]⟩, fun h => by cases h⟩

theorem eq_nil8 (a : Option Addr) (n c : Nat) (w : World) : (binOp .eql 24 (.slice a n c) (.slice none 0 0)).run Try.prog w = .ok (.bool a.isNone) w := by
  simp [binOp, run_equal_slice_nil w 24 5 a n c Try.underlying24]

set_option maxRecDepth 100000 in
theorem clone8_any (l : List Int) (a : Option Addr) (cap : Nat) (w : World) (hb : BytesIn w a l cap) (hm : l.length ≤ 1000000) : Calls Try.prog 52 #[.slice a l.length cap] w (MakesR 5 (l.map (Value.int .u8)) w) := by
  cases a with
  | none =>
    obtain rfl : l = [] := List.eq_nil_of_length_eq_zero (hb.nil2 rfl rfl).1
    obtain rfl : cap = 0 := hb.nil rfl
    have hq := eq_nil8 none 0 0
    clear hb hm
    go_enter Try.func52, Try.ntmps52
    go_wp2
    go_ret
    exact ⟨_, rfl, ⟨w, Below.refl _ _, World.ownsRow_nil w w.heap.size 5 1⟩, rfl⟩
  | some ad =>
    obtain ⟨E⟩ := elem_of (P := Try.prog) (t := 24) (e := 5) (z := .int .u8 0) (n := 1) Try.underlying24 (by kernel_rfl) rfl (by omega)
    obtain ⟨so, hso⟩ := own_empty w
    have HSO := Lib.hid hso
    have HSRC := Lib.hid (hb.below so.below).news
    have HML := Lib.hid (show l.length = (l.map (Value.int .u8)).length from (List.length_map _).symm)
    have HLN := Lib.hid (show l.length ≤ 1000000 from hm)
    have hq := eq_nil8 (some ad) l.length cap
    clear hso hb hm
    go_enter Try.func52, Try.ntmps52
    go_wp2_with (rw [HSO.out]; refine wpList_append_src E so (l.map (Value.int .u8)) (.tmp 5) (.tmp 6) rfl rfl rfl (some ad) l.length cap HML.out rfl (fun h => by cases h) HSRC.out (one_bytes _) (by rw [List.length_nil, List.length_map]; have := HLN.out; omega) ?_; intro v' s')
    go_ret
    exact ⟨_, rfl, s', rfl⟩
end Go.Proofs.Ytgmjppjgbalapaa

/- Extents: values, rows, End and Valid. -/
namespace Go.Proofs.Ytgmjppjgbalapaa
open Go.RowKit Go.Shelf Go.Proofs.Ytgmjppjgbalapaa.Plain01

abbrev extV (x : Int × Int) : Value := .agg #[.int .i64 x.1, .int .i64 x.2]

/-- A row of n extents in block b from cell o on. -/
def ExtRow (w : World) (b o n : Nat) (f : Nat → Int × Int) : Prop := ∀ i, i < n → w.cell? ⟨b, o + i * 2, none⟩ = some (.int .i64 (f i).1) ∧ w.cell? ⟨b, o + i * 2 + 1, none⟩ = some (.int .i64 (f i).2)

theorem ExtRow.below {w w' : World} {B b o n : Nat} {f : Nat → Int × Int} (h : ExtRow w b o n f) (hb : Below B w w') (hlt : b < B) : ExtRow w' b o n f := fun i hi =>
  ⟨(hb.cell (p := ⟨b, _, none⟩) hlt).trans (h i hi).1, (hb.cell (p := ⟨b, _, none⟩) hlt).trans (h i hi).2⟩

theorem end_any (off len : Int) (hoff : 0 ≤ off) (hlen : 0 ≤ len) (hsum : off + len ≤ 4611686018427387903) (w : World) :
    Calls Try.prog 63 #[extV (off, len)] w fun e w' => e = .returned (.int .i64 (off + len)) ∧ w' = w.alloc (.cells #[.int .i64 off, .int .i64 len] 52) := by
  go_enter Try.func63, Try.ntmps63
  go_wp2
  go_ret
  exact ⟨rfl, rfl⟩

/-- The extent is valid. -/
def okE (x : Int × Int) : Bool := decide (0 ≤ x.1 ∧ 0 ≤ x.2 ∧ x.1 + x.2 ≤ 4611686018427387903)
theorem okE_iff {x : Int × Int} : okE x = true ↔ 0 ≤ x.1 ∧ 0 ≤ x.2 ∧ x.1 + x.2 ≤ 4611686018427387903 := by simp [okE]

/-- An int of 64 bits. -/
def I64 (a : Int) : Prop := -9223372036854775808 ≤ a ∧ a ≤ 9223372036854775807

theorem valid_any (off len : Int) (h0 : I64 off) (h1 : I64 len) (w : World) :
    Calls Try.prog 73 #[extV (off, len)] w fun e w' => e = .returned (.bool (okE (off, len))) ∧ w' = w.alloc (.cells #[.int .i64 off, .int .i64 len] 52) := by
  unfold I64 at h0 h1
  by_cases c1 : 0 ≤ off
  · by_cases c2 : 0 ≤ len
    · by_cases c3 : off ≤ 4611686018427387903 - len
      · have e : okE (off, len) = true := by rw [okE_iff]; simp; omega
        go_enter Try.func73, Try.ntmps73
        go_wp2
        go_ret
        exact ⟨by first | rfl | (rw [e]; rfl), rfl⟩
      · have e : okE (off, len) = false := by rw [Bool.eq_false_iff, Ne, okE_iff]; simp; omega
        go_enter Try.func73, Try.ntmps73
        go_wp2
        go_ret
        exact ⟨by first | rfl | (rw [e]; rfl), rfl⟩
    · have e : okE (off, len) = false := by rw [Bool.eq_false_iff, Ne, okE_iff]; simp; omega
      go_enter Try.func73, Try.ntmps73
      go_wp2
      go_ret
      exact ⟨by first | rfl | (rw [e]; rfl), rfl⟩
  · have e : okE (off, len) = false := by rw [Bool.eq_false_iff, Ne, okE_iff]; simp; omega
    go_enter Try.func73, Try.ntmps73
    go_wp2
    go_ret
    exact ⟨by first | rfl | (rw [e]; rfl), rfl⟩

end Go.Proofs.Ytgmjppjgbalapaa

/- What the small functions of package extent and of its reference return; each leaves what was there. -/
namespace Go.Proofs.Ytgmjppjgbalapaa
open Go.RowKit Go.Shelf Go.Proofs.Ytgmjppjgbalapaa.Plain01

/-- A boxed extent: the block. -/
abbrev extO (x : Int × Int) : Obj := .cells #[.int .i64 x.1, .int .i64 x.2] 52 (0, 0)

/-- The cells of an extent's block. -/
theorem ext_cells {w : World} {b : Nat} {x : Int × Int} (h : w.heap[b]? = some (extO x)) : w.cell? ⟨b, 0, none⟩ = some (.int .i64 x.1) ∧ w.cell? ⟨b, 1, none⟩ = some (.int .i64 x.2) ∧ ∀ i, w.frozen? ⟨b, i, none⟩ = false :=
  ⟨by rw [cell_of h]; rfl, by rw [cell_of h]; rfl, fun i => free_of h i⟩
theorem held_ext (w0 : World) {bs : List (Nat × Obj)} (b : Nat) (x : Int × Int) (hm : (b, extO x) ∈ bs) :
    (∀ s : HeldW w0 bs, s.w.cell? ⟨b, 0, none⟩ = some (.int .i64 x.1)) ∧ (∀ s : HeldW w0 bs, s.w.cell? ⟨b, 1, none⟩ = some (.int .i64 x.2)) :=
  ⟨fun s => (ext_cells (s.blocks _ hm)).1, fun s => (ext_cells (s.blocks _ hm)).2.1⟩

theorem held_ext1 {w0 : World} {bs : List (Nat × Obj)} (s : HeldW w0 bs) (b : Nat) (x : Int × Int) (hm : (b, extO x) ∈ bs) :
    s.w.cell? ⟨b, 0, none⟩ = some (.int .i64 x.1) ∧ s.w.cell? ⟨b, 1, none⟩ = some (.int .i64 x.2) ∧ ∀ i, s.w.frozen? ⟨b, i, none⟩ = false := ext_cells (s.blocks _ hm)

theorem held_extA {w0 : World} {bs : List (Nat × Obj)} (_ : HeldW w0 bs) (b : Nat) (x : Int × Int) (hm : (b, extO x) ∈ bs) :
    (∀ s : HeldW w0 bs, s.w.cell? ⟨b, 0, none⟩ = some (.int .i64 x.1)) ∧ (∀ s : HeldW w0 bs, s.w.cell? ⟨b, 1, none⟩ = some (.int .i64 x.2)) := held_ext w0 b x hm
/-- The cells of a listed extent, and that its block is an old one. -/
theorem held_ext2 {w0 : World} {bs : List (Nat × Obj)} (s : HeldW w0 bs) (b : Nat) (x : Int × Int) (hm : (b, extO x) ∈ bs) :
    s.w.cell? ⟨b, 0, none⟩ = some (.int .i64 x.1) ∧ s.w.cell? ⟨b, 1, none⟩ = some (.int .i64 x.2) ∧ b < s.w.heap.size := ⟨(ext_cells (s.blocks _ hm)).1, (ext_cells (s.blocks _ hm)).2.1, (Array.getElem?_eq_some_iff.1 (s.blocks _ hm)).1⟩

/-- A boxed extent, behind a callee. -/
theorem boxed_ext {w w1 : World} {o : Obj} (hb1 : Below (w.alloc o).heap.size (w.alloc o) w1) :
    w1.heap[w.heap.size]? = some o ∧ Below w.heap.size w w1 :=
  ⟨heap_below (heap_new w o rfl) hb1, ((Below.refl w.heap.size w).alloc (Nat.le_refl _) _).trans (hb1.mono (by simp))⟩

theorem valid_gives (x : Int × Int) (h0 : I64 x.1) (h1 : I64 x.2) (w : World) : Calls Try.prog 73 #[extV x] w (Gives (.bool (okE x)) w) := gives_alloc (valid_any x.1 x.2 h0 h1 w)
theorem end_gives (x : Int × Int) (h : okE x = true) (w : World) : Calls Try.prog 63 #[extV x] w (Gives (.int .i64 (x.1 + x.2)) w) := by
  rw [okE_iff] at h
  exact gives_alloc (end_any x.1 x.2 h.1 h.2.1 h.2.2 w)

theorem end_gives2 (p q : Int) (hp : 0 ≤ p) (hq : 0 ≤ q) (hs : p + q ≤ 4611686018427387903) (w : World) : Calls Try.prog 63 #[.agg #[.int .i64 p, .int .i64 q]] w (Gives (.int .i64 (p + q)) w) :=
  gives_alloc (end_any p q hp hq hs w)

theorem okE_false {x : Int × Int} (h : ¬ (0 ≤ x.1 ∧ 0 ≤ x.2 ∧ x.1 + x.2 ≤ 4611686018427387903)) : okE x = false := by rw [Bool.eq_false_iff, Ne, okE_iff]; exact h

theorem rmax_any (w : World) : Calls Try.prog 51 #[] w fun e w' => e = .returned (.int .i64 4611686018427387903) ∧ w' = w := by
  go_enter Try.func51, Try.ntmps51
  go_wp2
  go_ret
  exact ⟨rfl, rfl⟩

theorem rvalid_any (off len : Int) (h0 : I64 off) (h1 : I64 len) (w : World) :
    Calls Try.prog 27 #[extV (off, len)] w fun e w' => e = .returned (.bool (okE (off, len))) ∧ ∃ nq, w' = (w.alloc (.cells #[.int .i64 off, .int .i64 len] 52)).drewN nq := by
  unfold I64 at h0 h1
  by_cases c1 : 0 ≤ off
  · by_cases c2 : 0 ≤ len
    · by_cases c3 : off ≤ 4611686018427387903
      · by_cases c4 : len ≤ 4611686018427387903 - off
        · have e : okE (off, len) = true := by rw [okE_iff]; simp; omega
          have d1 : decide (len ≤ 4611686018427387903 - off) = true := by simp; omega
          go_enter Try.func27, Try.ntmps27
          go_wp2
          go_quiet ((go_at_call 51; exact Calls.quiet_of_same (rmax_any _)))
          go_wp2
          go_ret
          exact ⟨by rw [e]; rfl, _, rfl⟩
        · have e : okE (off, len) = false := okE_false (by simp; omega)
          have d1 : decide (len ≤ 4611686018427387903 - off) = false := by simp; omega
          go_enter Try.func27, Try.ntmps27
          go_wp2
          go_quiet ((go_at_call 51; exact Calls.quiet_of_same (rmax_any _)))
          go_wp2
          go_ret
          exact ⟨by rw [e]; rfl, _, rfl⟩
      · have e : okE (off, len) = false := okE_false (by simp; omega)
        have d1 : decide (off ≤ 4611686018427387903) = false := by simp; omega
        go_enter Try.func27, Try.ntmps27
        go_wp2
        go_quiet ((go_at_call 51; exact Calls.quiet_of_same (rmax_any _)))
        go_wp2
        go_ret
        exact ⟨by rw [e]; rfl, _, rfl⟩
    · have e : okE (off, len) = false := okE_false (by simp; omega)
      have d1 : decide (0 ≤ len) = false := by simp; omega
      go_enter Try.func27, Try.ntmps27
      go_wp2
      go_quiet ((go_at_call 51; exact Calls.quiet_of_same (rmax_any _)))
      go_wp2
      go_ret
      exact ⟨by rw [e]; rfl, _, rfl⟩
  · have e : okE (off, len) = false := okE_false (by simp; omega)
    have d1 : decide (0 ≤ off) = false := by simp; omega
    go_enter Try.func27, Try.ntmps27
    go_wp2
    go_quiet ((go_at_call 51; exact Calls.quiet_of_same (rmax_any _)))
    go_wp2
    go_ret
    exact ⟨by rw [e]; rfl, _, rfl⟩
theorem rvalid_gives (x : Int × Int) (h0 : I64 x.1) (h1 : I64 x.2) (w : World) : Calls Try.prog 27 #[extV x] w (Gives (.bool (okE x)) w) := gives_drew (rvalid_any x.1 x.2 h0 h1 w)

end Go.Proofs.Ytgmjppjgbalapaa

/- Contains of package extent, at a slice of extents that came in or was made. -/
namespace Go.Proofs.Ytgmjppjgbalapaa
open Go.RowKit Go.Shelf Go.Proofs.Ytgmjppjgbalapaa.Plain01

/-- The first n of f lie within e. -/
def insE (e x : Int × Int) : Prop := e.1 ≤ x.1 ∧ x.1 + x.2 ≤ e.1 + e.2
instance (e x : Int × Int) : Decidable (insE e x) := by unfold insE; exact inferInstance
def insB (e : Int × Int) (n : Nat) (f : Nat → Int × Int) : Bool := decide (∀ i, i < n → insE e (f i))

theorem insB_no {e : Int × Int} {n k : Nat} {f : Nat → Int × Int} (hk : k < n) (h : ¬ insE e (f k)) : insB e n f = false := by
  unfold insB; simp only [decide_eq_false_iff_not]; intro h'; exact h (h' k hk)
theorem insB_yes {e : Int × Int} {n : Nat} {f : Nat → Int × Int} (h : ∀ i, i < n → insE e (f i)) : insB e n f = true := by
  unfold insB; simp only [decide_eq_true_eq]; exact h

theorem ins_succ {e : Int × Int} {k : Nat} {f : Nat → Int × Int} (h : ∀ j, j < k → insE e (f j)) (hk : insE e (f k)) : ∀ j, j < k + 1 → insE e (f j) := fun j hj => by
  by_cases hjk : j < k
  · exact h j hjk
  · obtain rfl : j = k := by omega
    exact hk

theorem all_succ {p : Nat → Bool} {k : Nat} (h : ∀ j, j < k → p j = true) (hk : p k = true) : ∀ j, j < k + 1 → p j = true := fun j hj => by
  by_cases hjk : j < k
  · exact h j hjk
  · obtain rfl : j = k := by omega
    exact hk

/-- A slice of n extents. -/
def ExtSlice (w : World) (a : Option Addr) (n : Nat) (f : Nat → Int × Int) : Prop := 0 < n → ∃ b o, a = some ⟨b, o, none⟩ ∧ ExtRow w b o n f

theorem ExtRow.lt {w : World} {b o n : Nat} {f : Nat → Int × Int} (h : ExtRow w b o n f) (hn : 0 < n) : b < w.heap.size := World.block_lt_of_cell? w _ (h 0 hn).1

theorem ExtSlice.below {w w' : World} {a : Option Addr} {n : Nat} {f : Nat → Int × Int} (h : ExtSlice w a n f) (hb : Below w.heap.size w w') : ExtSlice w' a n f := fun hn => by
  obtain ⟨b, o, ha, hr⟩ := h hn
  exact ⟨b, o, ha, hr.below hb (hr.lt hn)⟩

theorem insB_succ (e : Int × Int) (k : Nat) (f : Nat → Int × Int) : insB e (k + 1) f = (insB e k f && decide (insE e (f k))) := by
  by_cases hin : insE e (f k)
  · by_cases h : ∀ i, i < k → insE e (f i)
    · rw [insB_yes h, insB_yes (ins_succ h hin), decide_eq_true hin]; rfl
    · have : insB e k f = false := by unfold insB; simp only [decide_eq_false_iff_not]; exact h
      rw [this, Bool.false_and]
      unfold insB; simp only [decide_eq_false_iff_not]; exact fun h' => h fun i hi => h' i (by omega)
  · rw [insB_no (k := k) (by omega) hin, decide_eq_false hin, Bool.and_false]

end Go.Proofs.Ytgmjppjgbalapaa
