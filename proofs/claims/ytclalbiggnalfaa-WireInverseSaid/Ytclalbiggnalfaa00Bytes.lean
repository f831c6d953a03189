/- Bytes and slices of bytes: cells, what came in, what the call itself made; words that every layer uses. -/
import Derived.Laws.MakeOwn
import Derived.Laws.AppendOwnNone
import Derived.Test.YtclalbiggnalfaaChecked
import Derived.Test.Ytclalbiggnalfaa02Own
namespace Go.Proofs.Ytclalbiggnalfaa
open Go.RowKit
set_option linter.unusedVariables false

/-- How long a slice is. -/
def lenOf : Value → Nat
  | .slice _ n _ => n
  | _ => 0

theorem one_bytes (l : List Int) : ∀ v ∈ l.map (Value.int .u8), v.oneCell' = true := fun v hv => by obtain ⟨n, _, rfl⟩ := List.mem_map.1 hv; rfl

/-- A slice of bytes outside of block h. -/
def Src (w : World) (h : Nat) (a : Option Addr) (l : List Int) : Prop := 0 < l.length → ∃ b o, a = some ⟨b, o, none⟩ ∧ b ≠ h ∧ ∀ i, i < l.length → w.cell? ⟨b, o + i, none⟩ = some (.int .u8 (l[i]?.getD 0))

theorem ret_i {k : IntKind} {a b : Int} (h : a = b) : Ending.returned (.int k a) = .returned (.int k b) := by rw [h]

/-- The i-th part. -/
def partOf (ls : List (List Int)) (i : Nat) : List Int := ls[i]?.getD []

/-- A slice of slices of bytes outside of block h. -/
def PartsAt (w : World) (h : Nat) (pa : Option Addr) (ls : List (List Int)) : Prop := 0 < ls.length → ∃ b o, pa = some ⟨b, o, none⟩ ∧ b ≠ h ∧ ∀ i, i < ls.length →
  ∃ a cap, w.cell? ⟨b, o + i, none⟩ = some (.slice a (partOf ls i).length cap) ∧ (partOf ls i).length ≤ cap ∧ cap ≤ 9223372036854775807 ∧ Src w h a (partOf ls i)

theorem take_flat (ls : List (List Int)) {k : Nat} (hk : k < ls.length) : (ls.take (k + 1)).flatten = (ls.take k).flatten ++ partOf ls k := by
  rw [List.take_succ_eq_append_getElem hk, List.flatten_append]
  unfold partOf
  rw [List.getElem?_eq_getElem hk]
  simp

theorem take_flat_le (ls : List (List Int)) (k : Nat) : (ls.take k).flatten.length ≤ ls.flatten.length := by
  conv => rhs; rw [← List.take_append_drop k ls, List.flatten_append, List.length_append]
  omega

/-- Bytes as cells. -/
def byteA (l : List Int) : Array Value := (l.map (Value.int .u8)).toArray

theorem byteA_get (l : List Int) {i : Nat} (h : i < l.length) : (byteA l)[i]? = some (.int .u8 (l[i]?.getD 0)) := by
  unfold byteA; rw [List.getElem?_toArray, List.getElem?_map, List.getElem?_eq_getElem h]; rfl

theorem byteA_set (l : List Int) (i : Nat) (v : Int) : (byteA l).setIfInBounds i (.int .u8 v) = byteA (l.set i v) := by
  unfold byteA; apply Array.toList_inj.1; rw [Array.toList_setIfInBounds]; simp only [List.map_set]

theorem byteA_one (l : List Int) : (byteA l).all (·.oneCell') = true := by
  rw [Array.all_eq_true_iff_forall_mem]
  intro v hv
  unfold byteA at hv
  rw [List.mem_toArray] at hv
  exact one_bytes l v hv

theorem byteA_size (l : List Int) : (byteA l).size = l.length := by unfold byteA; simp

theorem made_zero (k : Nat) : madeCells (Value.int .u8 0).cells (k * 1) = byteA (List.replicate k 0) := by
  apply Array.ext_getElem?
  intro i
  unfold madeCells byteA
  rw [Nat.mul_one]
  by_cases h : i < k
  · simp [h, Value.cells, Nat.mod_one]
  · simp [h]

theorem make_cap (l k : Nat) (hl : l ≤ k) (hk : k ≤ 1000) (w : World) : (Instr.makeSlice 22 (.int .i64 (l : Int)) (.int .i64 (k : Int))).run Try.prog w = .ok (.slice (some ⟨w.heap.size, 0, none⟩) l k) (w.alloc (.cells (byteA (List.replicate k 0)) 5)) := by
  have hi : ∃ i, Try.prog.info? 5 = some i ∧ i.zero = some (.int .u8 0) ∧ i.size = 1 ∧ i.bytes = 1 := by
    have h : (Try.prog.info? 5).map (fun i => (i.zero, i.size, i.bytes)) = some (some (.int .u8 0), 1, 1) := by kernel_rfl
    obtain ⟨i, hi, he⟩ := Option.map_eq_some_iff.1 h
    simp only [Prod.mk.injEq] at he
    exact ⟨i, hi, he.1, he.2.1, he.2.2⟩
  obtain ⟨i, hi, hz, hs, hb⟩ := hi
  rw [run_make w 22 5 i _ Try.underlying22 hi hz .i64 .i64 l k (by omega) (by omega) (by rw [hb]; omega) (by omega)]
  rw [hs, Int.toNat_natCast, Int.toNat_natCast, made_zero]

theorem make_bytes (k : Nat) (hk : k ≤ 1000) (w : World) : (Instr.makeSlice 22 (.int .i64 (k : Int)) (.int .i64 (k : Int))).run Try.prog w = .ok (.slice (some ⟨w.heap.size, 0, none⟩) k k) (w.alloc (.cells (byteA (List.replicate k 0)) 5)) := make_cap k k (Nat.le_refl _) hk w

/-- One part. -/
theorem parts1 {w : World} {g b cap : Nat} {a : Option Addr} {l : List Int} {t : TypeId} {fr : Nat × Nat} (hb : w.heap[b]? = some (.cells #[.slice a l.length cap] t fr)) (hg : b ≠ g) (hcap : l.length ≤ cap) (hcap2 : cap ≤ 9223372036854775807) (hs : Src w g a l) : PartsAt w g (some ⟨b, 0, none⟩) [l] :=
  fun _ => ⟨b, 0, rfl, hg, fun i hi => by
    obtain rfl : i = 0 := by simp at hi; omega
    exact ⟨a, cap, by rw [cell_of_row w b _ _ _ _ hb]; rfl, hcap, hcap2, hs⟩⟩

/-- Two parts. -/
theorem parts2 {w : World} {g b cap cap' : Nat} {a a' : Option Addr} {l l' : List Int} {t : TypeId} {fr : Nat × Nat} (hb : w.heap[b]? = some (.cells #[.slice a l.length cap, .slice a' l'.length cap'] t fr)) (hg : b ≠ g) (hcap : l.length ≤ cap) (hcap2 : cap ≤ 9223372036854775807) (hs : Src w g a l)
    (hcap' : l'.length ≤ cap') (hcap2' : cap' ≤ 9223372036854775807) (hs' : Src w g a' l') : PartsAt w g (some ⟨b, 0, none⟩) [l, l'] :=
  fun _ => ⟨b, 0, rfl, hg, fun i hi => by
    have : i = 0 ∨ i = 1 := by simp at hi; omega
    rcases this with rfl | rfl
    · exact ⟨a, cap, by rw [cell_of_row w b _ _ _ _ hb]; rfl, hcap, hcap2, hs⟩
    · exact ⟨a', cap', by rw [cell_of_row w b _ _ _ _ hb]; rfl, hcap', hcap2', hs'⟩⟩

/-- A slice of bytes that came in. -/
structure BytesIn (w : World) (a : Option Addr) (l : List Int) (cap : Nat) : Prop where
  len : l.length ≤ cap
  capb : cap ≤ 9223372036854775807
  cells : 0 < l.length → ∃ b o, a = some ⟨b, o, none⟩ ∧ ∀ i, i < l.length → w.cell? ⟨b, o + i, none⟩ = some (.int .u8 (l[i]?.getD 0))
  nil : a = none → cap = 0

theorem BytesIn.src {w : World} {a : Option Addr} {l : List Int} {cap : Nat} (h : BytesIn w a l cap) {g : Nat} (hg : w.heap.size ≤ g) : Src w g a l := fun hp => by
  obtain ⟨b, o, rfl, hc⟩ := h.cells hp
  have := World.block_lt_of_cell? w _ (hc 0 hp)
  exact ⟨b, o, rfl, by simp only at this; omega, hc⟩

/-- Bytes that lie somewhere are appended to a slice of the call's own. -/
theorem wpList_append_srcB {P : Program} {t e : TypeId} (E : Elem P t e) {w0 : World} {v : Value} {xs : List Value} {ops : Array Oper} {rest : List Oper} {o : Oper} {a : Act} {Q : Exit → Act → World → Prop} (s : OwnW w0 e v xs) (news : List Value)
    (sO xO : Operand) (hgd : o.guard = none) (ho : o.op = .call { callee := .builtin .append, args := #[sO, xO], argTypes := #[t, t] }) (hs : a.eval sO = v) (sp : Option Addr) (m c : Nat) (hm : m = news.length) (hx : a.eval xO = .slice sp m c)
    (hnil : sp = none → m = 0 ∧ c = 0) (hsrc : ∀ ad, sp = some ad → ∀ j u, news[j]? = some u → s.w.cell? (ad.add j) = some u)
    (h1 : ∀ u ∈ news, u.oneCell' = true) (hbytes : (xs.length + news.length) * E.bytes ≤ 140737488355328) (h63 : xs.length + news.length ≤ maxLen)
    (H : ∀ v' (s' : OwnW w0 e v' (xs ++ news)), wpList P ops Q rest (a.put o.dst v') s'.w) :
    wpList P ops Q (o :: rest) a s.w := by
  subst hm
  cases sp with
  | none =>
    obtain ⟨h0, rfl⟩ := hnil rfl
    obtain rfl := List.eq_nil_of_length_eq_zero h0
    refine wpList_append_own_none hgd sO xO t ho w0.heap.size e E.i 1 E.ht E.hi v xs.length xs hs s.own (by simpa using hx) ?_
    have hH : ∀ (ys : List Value) (hy : xs ++ [] = ys) (s2 : OwnW w0 e v ys), wpList P ops Q rest (a.put o.dst v) s2.w := fun ys hy s2 => by subst hy; exact H v s2
    exact hH xs (by simp) s
  | some ad =>
    refine wpList_append_own _ hgd sO xO t ho w0.heap.size e E.i E.z 1 E.bytes E.ht E.hi E.hz E.hsize E.hby E.hzs (by omega) v xs.length xs hs s.own ad news.length c news hx (by omega) (hsrc ad rfl) h1 h63 hbytes s.below.size ?_
    · intro v' w' hown hgr _
      refine H v' ⟨w', s.below.grown hgr s.below.size (fun k hk => (s.own.lt k hk).1), ?_⟩
      rw [List.length_append]
      exact hown

/-- The same, for what is not too long, of whatever element. -/
theorem wpList_append_src {P : Program} {t e : TypeId} (E : Elem P t e) {w0 : World} {v : Value} {xs : List Value} {ops : Array Oper} {rest : List Oper} {o : Oper} {a : Act} {Q : Exit → Act → World → Prop} (s : OwnW w0 e v xs) (news : List Value)
    (sO xO : Operand) (hgd : o.guard = none) (ho : o.op = .call { callee := .builtin .append, args := #[sO, xO], argTypes := #[t, t] }) (hs : a.eval sO = v) (sp : Option Addr) (m c : Nat) (hm : m = news.length) (hx : a.eval xO = .slice sp m c)
    (hnil : sp = none → m = 0 ∧ c = 0) (hsrc : ∀ ad, sp = some ad → ∀ j u, news[j]? = some u → s.w.cell? (ad.add j) = some u)
    (h1 : ∀ u ∈ news, u.oneCell' = true) (hlen : xs.length + news.length ≤ 1099511627776)
    (H : ∀ v' (s' : OwnW w0 e v' (xs ++ news)), wpList P ops Q rest (a.put o.dst v') s'.w) :
    wpList P ops Q (o :: rest) a s.w :=
  wpList_append_srcB E s news sO xO hgd ho hs sp m c hm hx hnil hsrc h1 (by
    have h2 : (xs.length + news.length) * E.bytes ≤ 1099511627776 * 8 := Nat.mul_le_mul hlen E.hb8
    omega) (by unfold maxLen; omega) H

/-- Bytes have one byte. -/
theorem elem8 : ∃ E : Elem Try.prog 22 5, E.bytes = 1 := by
  have h : (Try.prog.info? 5).map (fun i => (i.zero, i.size, i.bytes)) = some (some (.int .u8 0), 1, 1) := by kernel_rfl
  obtain ⟨i, hi, he⟩ := Option.map_eq_some_iff.1 h
  simp only [Prod.mk.injEq] at he
  exact ⟨⟨i, .int .u8 0, 1, Try.underlying22, hi, he.1, he.2.1, he.2.2, rfl, by omega⟩, rfl⟩

/-- What an owned slice looks like. -/
theorem OwnW.view {w0 : World} {e : TypeId} {v : Value} {xs : List Value} (s : OwnW w0 e v xs) (n : Nat) (hn : xs.length = n) : ∃ (a : Option Addr) (cap : Nat), v = .slice a n cap ∧ n ≤ cap ∧ cap ≤ 9223372036854775807 ∧
    Hid (0 < n → ∃ (g : Nat) (cur : Array Value), a = some ⟨g, 0, none⟩ ∧ w0.heap.size ≤ g ∧ s.w.heap[g]? = some (.cells cur e (0, 0)) ∧ ∀ (j : Nat) (u : Value), xs[j]? = some u → cur[j]? = some u) := by
  subst hn
  rcases s.own.2 with ⟨h1, h0⟩ | ⟨g, cap, cur, rfl, hg, hb, hc, hm, _, ht⟩
  · exact ⟨none, 0, by rw [h1, h0], by omega, by omega, fun h => by omega⟩
  · refine ⟨_, cap, rfl, hc, by unfold maxLen at hm; omega, fun _ => ⟨g, cur, rfl, hg, hb, fun j u hu => ?_⟩⟩
    have := s.own.cells (g := g) rfl j u hu
    rw [Addr.add_mid, Nat.zero_add, cell_of hb] at this
    exact this

/-- An empty literal. -/
theorem own_empty (w : World) : ∃ s : OwnW w 5 (.slice (some ⟨w.heap.size, 0, none⟩) 0 0) [], w.alloc (.cells #[] 5) = s.w :=
  ⟨⟨_, (Below.refl _ w).alloc (Nat.le_refl _) _, by
    have := World.ownsRow_made (base := w.heap.size) (e := 5) (size := 1) w #[] 0 (Nat.le_refl _) (by unfold maxLen; omega) rfl
    simpa using this⟩, rfl⟩

/-- A slice of slices of bytes that came in. -/
structure PartsIn (w : World) (pa : Option Addr) (ls : List (List Int)) : Prop where
  len : ls.length ≤ 9223372036854775807
  cells : 0 < ls.length → ∃ b o, pa = some ⟨b, o, none⟩ ∧ ∀ i, i < ls.length → ∃ a cap, w.cell? ⟨b, o + i, none⟩ = some (.slice a (partOf ls i).length cap) ∧ BytesIn w a (partOf ls i) cap

theorem PartsIn.at {w : World} {pa : Option Addr} {ls : List (List Int)} (h : PartsIn w pa ls) {g : Nat} (hg : w.heap.size ≤ g) : PartsAt w g pa ls := fun hp => by
  obtain ⟨b, o, rfl, hc⟩ := h.cells hp
  refine ⟨b, o, rfl, ?_, fun i hi => ?_⟩
  · obtain ⟨a, cap, h1, _⟩ := hc 0 hp
    have := World.block_lt_of_cell? w _ h1
    simp only at this
    omega
  · obtain ⟨a, cap, h1, h2⟩ := hc i hi
    exact ⟨a, cap, h1, h2.len, h2.capb, h2.src hg⟩

/-- An owned slice, its block listed. -/
theorem OwnW.held {w : World} {e : TypeId} {v : Value} {xs : List Value} (s : OwnW w e v xs) (n : Nat) (hn : xs.length = n) : ∃ (a : Option Addr) (cap : Nat) (bsx : List (Nat × Obj)), v = .slice a n cap ∧ n ≤ cap ∧ cap ≤ 9223372036854775807 ∧
    Hid (0 < n → ∃ (g : Nat) (cur : Array Value), a = some ⟨g, 0, none⟩ ∧ w.heap.size ≤ g ∧ bsx = [(g, .cells cur e (0, 0))] ∧ ∀ (j : Nat) (u : Value), xs[j]? = some u → cur[j]? = some u) ∧ ∃ s3 : HeldW w bsx, s.w = s3.w := by
  obtain ⟨a, cap, hv, h1, h2, hrow⟩ := s.view n hn
  by_cases h : 0 < n
  · obtain ⟨g, cur, ha, hg, hb, hc⟩ := hrow.out h
    exact ⟨a, cap, [(g, .cells cur e (0, 0))], hv, h1, h2, fun _ => ⟨g, cur, ha, hg, rfl, hc⟩, ⟨s.w, s.below, all1 hb⟩, rfl⟩
  · exact ⟨a, cap, [], hv, h1, h2, fun h' => absurd h' h, ⟨s.w, s.below, by simp⟩, rfl⟩

/-- A load that yields the same value in every world of a class goes as that value. -/
theorem quiet_load {P : Program} {ops : Array Oper} {C : World → Prop} {Q : Act → Prop} {a : Act} {rest : List Oper} {dst : Option Tmp} {type : TypeId} {pos : String} {after : Array Edge} {guard : Option (Nat × Bool)} (ty : TypeId) (x : Operand) (v : Value) (w : World) (hw : C w)
    (hl : ∀ w, C w → (Instr.loadAt ty (a.eval x)).run P w = .ok v w)
    (h : wpQuiet P ops C Q (⟨dst, .assign (.const v), type, pos, after, guard⟩ :: rest) a) : wpQuiet P ops C Q (⟨dst, .load ty x, type, pos, after, guard⟩ :: rest) a := by
  unfold wpQuiet at h ⊢
  by_cases hg : Region.wanted ⟨dst, .load ty x, type, pos, after, guard⟩ (yielded ops a.tmps) = true
  · rw [if_pos hg]
    rw [if_pos (show Region.wanted ⟨dst, .assign (.const v), type, pos, after, guard⟩ (yielded ops a.tmps) = true from hg)] at h
    obtain ⟨u, h1, h2⟩ := h
    have h3 := h1 w hw
    have hu : v = u := by
      unfold Oper.quietAt execOp at h3
      simp [Oper.quietUpon, Act.eval] at h3
      exact h3
    subst hu
    exact ⟨v, fun w' hw' => by
      unfold Oper.quietAt execOp
      simp only [Sem.run_bind, hl w' hw', Result.andThen_ok, Sem.run_pure, Oper.quietUpon]
      exact ⟨trivial, trivial⟩, h2⟩
  · rw [if_neg hg]
    rw [if_neg (show ¬ Region.wanted ⟨dst, .assign (.const v), type, pos, after, guard⟩ (yielded ops a.tmps) = true from hg)] at h
    exact h

/-- A slice of its own that a callee has made behind listed blocks: one more listed block. -/
theorem HeldW.own {w : World} {bs : List (Nat × Obj)} (s1 : HeldW w bs) {e : TypeId} {v : Value} {xs : List Value} (s : OwnW s1.w e v xs) (n : Nat) (hn : xs.length = n) (hp : 0 < n) :
    ∃ (g cap : Nat) (cur : Array Value), v = .slice (some ⟨g, 0, none⟩) n cap ∧ n ≤ cap ∧ cap ≤ 9223372036854775807 ∧ w.heap.size ≤ g ∧ Hid (∀ p ∈ bs, p.1 ≠ g) ∧ Hid (∀ (j : Nat) (u : Value), xs[j]? = some u → cur[j]? = some u) ∧ ∃ s2 : HeldW w ((g, .cells cur e (0, 0)) :: bs), s.w = s2.w := by
  obtain ⟨a, cap, rfl, h1, h2, hrow⟩ := s.view n hn
  obtain ⟨g, cur, rfl, hg, hb, hc⟩ := hrow.out hp
  refine ⟨g, cap, cur, rfl, h1, h2, Nat.le_trans s1.below.size hg, fun p hp => ?_, hc, ⟨s.w, s1.below.trans (s.below.mono s1.below.size), List.forall_mem_cons.2 ⟨hb, fun p hp => ?_⟩⟩, rfl⟩
  · have := (Array.getElem?_eq_some_iff.1 (s1.blocks p hp)).1
    omega
  · exact (s.below.block _ (Array.getElem?_eq_some_iff.1 (s1.blocks p hp)).1).trans (s1.blocks p hp)

/-- It returns a new slice of its own. -/
def MakesR (e : TypeId) (xs : List Value) (w : World) (en : Ending) (w' : World) : Prop := ∃ v, en = .returned v ∧ ∃ s : OwnW w e v xs, w' = s.w

theorem BytesIn.W {w : World} {a : Option Addr} {l : List Int} {cap : Nat} (h : BytesIn w a l cap) {bs : List (Nat × Obj)} (s : HeldW w bs) : BytesIn s.w a l cap := ⟨h.len, h.capb, fun hp => by
    obtain ⟨b, o, h1, h2⟩ := h.cells hp
    exact ⟨b, o, h1, fun i hi => (s.below.cell (p := ⟨b, o + i, none⟩) (World.block_lt_of_cell? _ _ (h2 i hi))).trans (h2 i hi)⟩, h.nil⟩

/-- Behind listed blocks. -/
theorem OwnW.on {w : World} {bs : List (Nat × Obj)} (s : HeldW w bs) {e : TypeId} {v : Value} {xs : List Value} (o : OwnW s.w e v xs) : ∃ s' : HeldW w bs, o.w = s'.w :=
  ⟨⟨o.w, s.below.trans (o.below.mono s.below.size), fun p hp => (o.below.block _ (Array.getElem?_eq_some_iff.1 (s.blocks p hp)).1).trans (s.blocks p hp)⟩, rfl⟩
end Go.Proofs.Ytclalbiggnalfaa
