/- What a hash holds when it has taken some bytes; the law of copy into a block that may be written. -/
import Derived.Test.YtnpcocjjmajifaaDoor02Mix
namespace Go.Proofs.YtnpcocjjmajifaaDoor
open Go.RowKit
set_option linter.unusedVariables false

theorem wl_congr (f g : Nat → Int) (h : ∀ i, i < 64 → f i = g i) : ∀ k, k ≤ 64 → wl f k = wl g k
  | 0, _ => rfl
  | k + 1, hk => by
    rw [wl, wl, wl_congr f g h k (by omega)]
    by_cases hk' : k < 16
    · rw [if_pos hk', if_pos hk']
      unfold word0
      rw [h (4 * k) (by omega), h (4 * k + 1) (by omega), h (4 * k + 2) (by omega), h (4 * k + 3) (by omega)]
    · rw [if_neg hk', if_neg hk']

/-- The state at first. -/
def initV : V8 := ⟨1779033703, 3144134277, 1013904242, 2773480762, 1359893119, 2600822924, 528734635, 1541459225⟩
/-- The state behind q blocks of bytes. -/
def stF (f : Nat → Int) : Nat → V8
  | 0 => initV
  | q + 1 => mixW (stF f q) (wl (fun i => f (64 * q + i)) 64)
theorem stF_congr (f g : Nat → Int) : ∀ q, (∀ i, i < 64 * q → f i = g i) → stF f q = stF g q
  | 0, _ => rfl
  | q + 1, h => by
    rw [stF, stF, stF_congr f g q (fun i hi => h i (by omega)), wl_congr _ _ (fun i hi => h (64 * q + i) (by omega)) 64 (by omega)]

def byteAt (m : List Int) (i : Nat) : Int := m[i]?.getD 0
theorem byteAt_append (m l : List Int) {i : Nat} (h : i < m.length) : byteAt (m ++ l) i = byteAt m i := by unfold byteAt; rw [List.getElem?_append_left h]

/-- The cells of a hash, as a list. -/
def hashL (v : V8) (r : List Int) (n : Int) : List Value := Value.int .u32 v.a :: .int .u32 v.b :: .int .u32 v.c :: .int .u32 v.d :: .int .u32 v.e :: .int .u32 v.f :: .int .u32 v.g :: .int .u32 v.h :: (r.map (Value.int .u8) ++ [Value.int .i64 n])
theorem hashL_eq (v : V8) (r : List Int) (n : Int) : (hashL v r n).toArray = hashA v r n := rfl
theorem hashL_length (v : V8) (r : List Int) (n : Int) (h : r.length = 64) : (hashL v r n).length = 73 := by simp [hashL, h]
theorem hashL_splice (v : V8) (r : List Int) (n : Int) (off : Nat) (l : List Int) (h : off + l.length ≤ r.length) : splice (hashL v r n) (8 + off) (l.map (Value.int .u8)) = hashL v (splice r off l) n := by
  unfold splice hashL
  rw [show 8 + off = off + 8 by omega, List.length_map, show off + 8 + l.length = (off + l.length) + 8 by omega]
  simp only [List.take_succ_cons, List.drop_succ_cons, List.map_append, List.map_take, List.map_drop, List.cons_append]
  rw [List.take_append_of_le_length (by simp; omega), List.drop_append_of_le_length (by simp; omega)]
  simp
theorem splice_length (r : List Int) (off : Nat) (l : List Int) (h : off + l.length ≤ r.length) : (splice r off l).length = r.length := length_splice r off l h
theorem splice_low (r : List Int) (off : Nat) (l : List Int) {i : Nat} (hi : i < off) (h : off + l.length ≤ r.length) : (splice r off l)[i]? = r[i]? := by
  unfold splice; rw [List.getElem?_append_left (by simp; omega), List.getElem?_take, if_pos hi]
theorem splice_in (r : List Int) (off : Nat) (l : List Int) {i : Nat} (hi : i < l.length) (h : off + l.length ≤ r.length) : (splice r off l)[off + i]? = l[i]? := by
  unfold splice
  rw [List.getElem?_append_right (by simp; omega), List.length_take, Nat.min_eq_left (by omega), show off + i - off = i by omega, List.getElem?_append_left hi]

/-- The cells of a hash, one by one. -/
theorem hash_rest (v : V8) (r : List Int) (n : Int) {i : Nat} (h : r.length = 64) (hi : i < 64) : (hashA v r n)[8 + i]? = some (.int .u8 (r[i]?.getD 0)) := by
  rw [← hashL_eq, List.getElem?_toArray, hashL, show 8 + i = i + 8 by omega]
  simp only [List.getElem?_cons_succ]
  rw [List.getElem?_append_left (by simp; omega), List.getElem?_map, List.getElem?_eq_getElem (by omega)]
  rfl
theorem hash_len (v : V8) (r : List Int) (n : Int) (h : r.length = 64) : (hashA v r n)[72]? = some (.int .i64 n) := by
  rw [← hashL_eq, List.getElem?_toArray, hashL]
  simp only [List.getElem?_cons_succ]
  rw [List.getElem?_append_right (by simp [h])]
  simp [h]
theorem hash_set_len (v : V8) (r : List Int) (n n' : Int) (h : r.length = 64) : (hashA v r n).setIfInBounds 72 (.int .i64 n') = hashA v r n' := by
  rw [← hashL_eq, ← hashL_eq]
  apply Array.toList_inj.1
  rw [Array.toList_setIfInBounds]
  unfold hashL
  simp only [List.set_cons_succ]
  rw [List.set_append_right _ _ (by simp [h])]
  simp [h]

/-- The hash has taken the bytes m. -/
def Inv (m : List Int) (o : Obj) : Prop := ∃ r : List Int, r.length = 64 ∧ (∀ i, i < m.length % 64 → r[i]? = m[m.length / 64 * 64 + i]?) ∧ o = hashO (stF (byteAt m) (m.length / 64)) r m.length

/-- A slice of bytes outside of block h. -/
def Src (w : World) (h : Nat) (a : Option Addr) (l : List Int) : Prop := 0 < l.length → ∃ b o, a = some ⟨b, o, none⟩ ∧ b ≠ h ∧ ∀ i, i < l.length → w.cell? ⟨b, o + i, none⟩ = some (.int .u8 (l[i]?.getD 0))
theorem Src.X {w : World} {h : Nat} {b o : Nat} {l : List Int} (hb : b ≠ h) (hc : ∀ i, i < l.length → w.cell? ⟨b, o + i, none⟩ = some (.int .u8 (l[i]?.getD 0))) {bs : List (Nat × Obj)} (s : HeldX w h bs) :
    ∀ i, i < l.length → s.w.cell? ⟨b, o + i, none⟩ = some (.int .u8 (l[i]?.getD 0)) := fun i hi => by
  have h1 := hc i hi
  rw [← h1]
  unfold World.cell?
  rw [s.but.block b (World.block_lt_of_cell? w _ h1) hb]

/-- Bytes are copied into the block that may be written. -/
theorem wpList_copy_X {P : Program} {w0 : World} {h g : Nat} {bs : List (Nat × Obj)} {ops : Array Oper} {rest : List Oper} {o : Oper} {a : Act} {Q : Exit → Act → World → Prop} (off : Nat) (cur : List Value) (t : TypeId)
    (s : HeldX w0 h ((g, .cells cur.toArray t (0, 0)) :: bs)) (hg : g = h ∨ w0.heap.size ≤ g) (hne : ∀ p ∈ bs, p.1 ≠ g) (d sr : Operand) (dT sT : TypeId)
    (hgd : o.guard = none) (ho : o.op = .call { callee := .builtin .copy, args := #[d, sr], argTypes := #[dT, sT] }) (elem : TypeId) (hu : P.underlying dT = some (.slice elem)) (hsz : (P.info? elem).map (·.size) = some 1)
    (dp sp : Option Addr) (dLen dCap sLen sCap : Nat) (hd : a.eval d = .slice dp dLen dCap) (hs : a.eval sr = .slice sp sLen sCap) (cs : List Value) (hn : cs.length = Nat.min sLen dLen) (k : Nat) (hk : cs.length = k)
    (hpos : 0 < cs.length → dp = some ⟨g, off, none⟩ ∧ ∃ ad, sp = some ad ∧ ∀ j v, cs[j]? = some v → s.w.cell? (ad.add j) = some v)
    (hfit : off + cs.length ≤ cur.length) (h1 : ∀ v ∈ cs, v.oneCell' = true)
    (H : ∀ s' : HeldX w0 h ((g, .cells (splice cur off cs).toArray t (0, 0)) :: bs), wpList P ops Q rest (a.put o.dst (goInt k)) s'.w) :
    wpList P ops Q (o :: rest) a s.w := by
  subst hk
  have hcur : s.w.heap[g]? = some (.cells cur.toArray t (0, 0)) := s.blocks (_, _) List.mem_cons_self
  by_cases h0 : cs.length = 0
  · obtain rfl : cs = [] := List.eq_nil_of_length_eq_zero h0
    have he : splice cur off [] = cur := by simp [splice]
    have := H (by rw [he]; exact s)
    refine wpList_copy_nothing hgd d sr dT sT ho elem hu hsz dp sp dLen dCap sLen sCap hd hs (by simpa using hn.symm) ?_
    have hw : ∀ (x : List Value) (hx : splice cur off [] = x) (s2 : HeldX w0 h ((g, .cells x.toArray t (0, 0)) :: bs)), wpList P ops Q rest (a.put o.dst (goInt 0)) s2.w := fun x hx s2 => by subst hx; exact H s2
    exact hw cur he s
  · obtain ⟨rfl, ad, rfl, hsrc⟩ := hpos (by omega)
    refine wpList_copy_own hgd d sr dT sT ho elem hu hsz g off dLen dCap ad sLen sCap hd hs cur.toArray t hcur cs hn hsrc (by simpa using hfit) h1 ?_
    exact H (s.row hg hne _)
end Go.Proofs.YtnpcocjjmajifaaDoor
