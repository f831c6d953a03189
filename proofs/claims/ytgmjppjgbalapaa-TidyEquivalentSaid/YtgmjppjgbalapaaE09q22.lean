import Derived.WalkKit
import Derived.StillTailTactics
import Derived.Test.YtgmjppjgbalapaaE09q21
import Derived.Great.BuildSlice
import Derived.Test.YtgmjppjgbalapaaE09q1
import Derived.Test.YtgmjppjgbalapaaE09q2
import Derived.Laws.MakeOwn
import Derived.Test.YtgmjppjgbalapaaE09q14
import Derived.BigQuiet
import Derived.Test.YtgmjppjgbalapaaE09q10
import Derived.Test.YtgmjppjgbalapaaE09q11
import Derived.Test.YtgmjppjgbalapaaE09q4
/- Plain mathematics for package sha. -/
namespace Go.Proofs.Ytgmjppjgbalapaa
open Go.RowKit
set_option linter.unusedVariables false

/-- A row of 64 words, the first of which are known. -/
def rowW (l : List Int) : Array Value := (l.map (Value.int .u32) ++ List.replicate (64 - l.length) (Value.int .u32 0)).toArray
theorem rowW_get (l : List Int) (i : Nat) (h : i < l.length) : (rowW l)[i]? = some (.int .u32 (l.getD i 0)) := by
  unfold rowW
  simp only [List.getElem?_toArray]
  rw [List.getElem?_append_left (by simpa using h)]
  simp [h]
theorem rowW_size (l : List Int) (h : l.length ≤ 64) : (rowW l).size = 64 := by unfold rowW; simp; omega
theorem rowW_set (l : List Int) (v : Int) (h : l.length < 64) : (rowW l).setIfInBounds l.length (.int .u32 v) = rowW (l ++ [v]) := by
  unfold rowW
  obtain ⟨n, hn⟩ : ∃ n, 64 - l.length = n + 1 := ⟨63 - l.length, by omega⟩
  have h2 : 64 - (l ++ [v]).length = n := by simp; omega
  rw [hn, h2]
  apply Array.toList_inj.1
  simp only [Array.toList_setIfInBounds, List.map_append, List.map_cons, List.map_nil, List.replicate_succ, List.append_assoc]
  rw [List.set_append_right _ _ (by simp)]
  simp
theorem rowW_zero (l : List Int) (i : Nat) (h : l.length ≤ i) (hi : i < 64) : (rowW l)[i]? = some (.int .u32 0) := by
  unfold rowW
  simp only [List.getElem?_toArray]
  rw [List.getElem?_append_right (by simpa using h), List.getElem?_replicate, if_pos (by simp; omega)]

theorem rowW_one (l : List Int) : (rowW l).all (·.oneCell') = true := by
  unfold rowW
  rw [Array.all_eq_true_iff_forall_mem]
  intro v hv
  simp only [List.mem_toArray, List.mem_append, List.mem_map, List.mem_replicate] at hv
  rcases hv with ⟨n, _, rfl⟩ | ⟨_, rfl⟩ <;> rfl

/-- A word out of four bytes. -/
def word0 (f : Nat → Int) (k : Nat) : Int :=
  bits .or .u32 (bits .or .u32 (bits .or .u32 (f (4 * k) % 4294967296 * 16777216 % 4294967296) (f (4 * k + 1) % 4294967296 * 65536 % 4294967296)) (f (4 * k + 2) % 4294967296 * 256 % 4294967296)) (f (4 * k + 3) % 4294967296)

/-- The 64 constants. -/
def rootsL : List Int := [1116352408, 1899447441, 3049323471, 3921009573, 961987163, 1508970993, 2453635748, 2870763221, 3624381080, 310598401, 607225278, 1426881987, 1925078388, 2162078206, 2614888103, 3248222580, 3835390401, 4022224774, 264347078, 604807628, 770255983, 1249150122, 1555081692, 1996064986, 2554220882, 2821834349, 2952996808, 3210313671, 3336571891, 3584528711, 113926993, 338241895, 666307205, 773529912, 1294757372, 1396182291, 1695183700, 1986661051, 2177026350, 2456956037, 2730485921, 2820302411, 3259730800, 3345764771, 3516065817, 3600352804, 4094571909, 275423344, 430227734, 506948616, 659060556, 883997877, 958139571, 1322822218, 1537002063, 1747873779, 1955562222, 2024104815, 2227730452, 2361852424, 2428436474, 2756734187, 3204031479, 3329325298]
theorem rootsL_length : rootsL.length = 64 := rfl

/-- The words of a state. -/
structure V8 where
  (a b c d e f g h : Int)
def V8.list (v : V8) : List Int := [v.a, v.b, v.c, v.d, v.e, v.f, v.g, v.h]

/-- The cells of a hash. -/
def hashA (v : V8) (r : List Int) (n : Int) : Array Value := (Value.int .u32 v.a :: .int .u32 v.b :: .int .u32 v.c :: .int .u32 v.d :: .int .u32 v.e :: .int .u32 v.f :: .int .u32 v.g :: .int .u32 v.h :: (r.map (Value.int .u8) ++ [Value.int .i64 n])).toArray
end Go.Proofs.Ytgmjppjgbalapaa

/- The words of a block: sha's schedule. -/
namespace Go.Proofs.Ytgmjppjgbalapaa
open Go.RowKit
set_option linter.unusedVariables false

/-- A word out of four earlier ones. -/
def word1 (l : List Int) (k : Nat) : Int :=
  (bits .xor .u32 (bits .xor .u32 (ror (l[k - 2]?.getD 0) 17) (ror (l[k - 2]?.getD 0) 19)) (l[k - 2]?.getD 0 / 1024) + l[k - 7]?.getD 0 +
    bits .xor .u32 (bits .xor .u32 (ror (l[k - 15]?.getD 0) 7) (ror (l[k - 15]?.getD 0) 18)) (l[k - 15]?.getD 0 / 8) + l[k - 16]?.getD 0) % 4294967296
/-- The first k words. -/
def wl (f : Nat → Int) : Nat → List Int
  | 0 => []
  | k + 1 => wl f k ++ [if k < 16 then word0 f k else word1 (wl f k) k]
theorem wl_length (f : Nat → Int) (k : Nat) : (wl f k).length = k := by
  induction k with
  | zero => rfl
  | succ k ih => rw [wl, List.length_append, ih]; rfl
theorem wl_low (f : Nat → Int) {k : Nat} (h : k < 16) : wl f (k + 1) = wl f k ++ [word0 f k] := by rw [wl, if_pos h]
theorem wl_high (f : Nat → Int) {k : Nat} (h : 16 ≤ k) : wl f (k + 1) = wl f k ++ [word1 (wl f k) k] := by rw [wl, if_neg (by omega)]
end Go.Proofs.Ytgmjppjgbalapaa

/- mix: a block is mixed into the state of a hash. -/
namespace Go.Proofs.Ytgmjppjgbalapaa
open Go.RowKit
set_option linter.unusedVariables false

/-- The table of the constants lies there. -/
def Roots (w : World) : Prop := ∀ i, i < 64 → w.cell? ⟨0, i, none⟩ = some (.int .u32 (rootsL[i]?.getD 0))
theorem Roots.X {w : World} {h : Nat} {bs : List (Nat × Obj)} (hr : Roots w) (hh : h ≠ 0) (s : HeldX w h bs) : Roots s.w := fun i hi => by
  have hc := hr i hi
  have hb := World.block_lt_of_cell? w _ hc
  rw [← hc]
  unfold World.cell?
  rw [s.but.block 0 hb (by omega)]
theorem Roots.below {w w' : World} (hr : Roots w) (hb : Below w.heap.size w w') : Roots w' := fun i hi => by
  rw [← hr i hi]; exact hb.cell (p := ⟨0, i, none⟩) (World.block_lt_of_cell? w _ (hr i hi))
theorem Roots.pos {w : World} (hr : Roots w) : 0 < w.heap.size := World.block_lt_of_cell? w _ (hr 0 (by omega))

/-- One of the 64 steps. -/
def tOne (v : V8) (k w : Int) : Int :=
  (v.h + bits .xor .u32 (bits .xor .u32 (ror v.e 6) (ror v.e 11)) (ror v.e 25) + bits .xor .u32 (bits .and .u32 v.e v.f) (bits .and .u32 (bits .xor .u32 4294967295 v.e) v.g) + k + w) % 4294967296
def tTwo (v : V8) : Int :=
  (bits .xor .u32 (bits .xor .u32 (ror v.a 2) (ror v.a 13)) (ror v.a 22) + bits .xor .u32 (bits .xor .u32 (bits .and .u32 v.a v.b) (bits .and .u32 v.a v.c)) (bits .and .u32 v.b v.c)) % 4294967296
def rnd (v : V8) (k w : Int) : V8 := ⟨(tOne v k w + tTwo v) % 4294967296, v.a, v.b, v.c, (v.d + tOne v k w) % 4294967296, v.e, v.f, v.g⟩
def rounds (W : List Int) (v : V8) : Nat → V8
  | 0 => v
  | k + 1 => rnd (rounds W v k) (rootsL[k]?.getD 0) (W[k]?.getD 0)
theorem allOnes : (if IntKind.u32.signed = true then -1 else IntKind.u32.max) = 4294967295 := by decide +kernel
/-- The words are added to those of the state, the first k of them. -/
def addK (v u : V8) (k : Nat) : V8 :=
  ⟨if 0 < k then (v.a + u.a) % 4294967296 else v.a, if 1 < k then (v.b + u.b) % 4294967296 else v.b, if 2 < k then (v.c + u.c) % 4294967296 else v.c, if 3 < k then (v.d + u.d) % 4294967296 else v.d,
   if 4 < k then (v.e + u.e) % 4294967296 else v.e, if 5 < k then (v.f + u.f) % 4294967296 else v.f, if 6 < k then (v.g + u.g) % 4294967296 else v.g, if 7 < k then (v.h + u.h) % 4294967296 else v.h⟩
/-- The state behind a block with the words W. -/
def mixW (v : V8) (W : List Int) : V8 := addK v (rounds W v 64) 8

def V8.at (v : V8) (k : Nat) : Int := v.list[k]?.getD 0
theorem lt8 {k : Nat} (h : k < 8) : k = 0 ∨ k = 1 ∨ k = 2 ∨ k = 3 ∨ k = 4 ∨ k = 5 ∨ k = 6 ∨ k = 7 := by omega
theorem hash_at (v : V8) (r : List Int) (n : Int) {k : Nat} (hk : k < 8) : (hashA v r n)[k]? = some (.int .u32 (v.at k)) := by
  rcases lt8 hk with rfl | rfl | rfl | rfl | rfl | rfl | rfl | rfl <;> rfl
theorem add_at (v u : V8) {k : Nat} (hk : k < 8) : (addK v u k).at k = v.at k := by
  rcases lt8 hk with rfl | rfl | rfl | rfl | rfl | rfl | rfl | rfl <;> rfl
theorem add_set (v u : V8) (r : List Int) (n : Int) {k : Nat} (hk : k < 8) : (hashA (addK v u k) r n).setIfInBounds k (.int .u32 ((v.at k + u.at k) % 4294967296)) = hashA (addK v u (k + 1)) r n := by
  rcases lt8 hk with rfl | rfl | rfl | rfl | rfl | rfl | rfl | rfl <;> rfl

end Go.Proofs.Ytgmjppjgbalapaa

/- What a hash holds when it has taken some bytes; the law of copy into a block that may be written. -/
namespace Go.Proofs.Ytgmjppjgbalapaa
open Go.RowKit
set_option linter.unusedVariables false

theorem wl_congr (f g : Nat → Int) (h : ∀ i, i < 64 → f i = g i) : ∀ k, k ≤ 64 → wl f k = wl g k
  | 0, _ => rfl
  | k + 1, hk => by
    rw [wl, wl, wl_congr f g h k (by omega)]
    by_cases hk' : k < 16
    · rw [if_pos hk', if_pos hk']
      unfold word0
      rw [h (4 * k) (by omega), h (4 * k + 1) (by omega), h (4 * k + 2) (by omega), h (4 * k + 3) (by omega)]
    · rw [if_neg hk', if_neg hk']

/-- The state at first. -/
def initV : V8 := ⟨1779033703, 3144134277, 1013904242, 2773480762, 1359893119, 2600822924, 528734635, 1541459225⟩
/-- The state behind q blocks of bytes. -/
def stF (f : Nat → Int) : Nat → V8
  | 0 => initV
  | q + 1 => mixW (stF f q) (wl (fun i => f (64 * q + i)) 64)
theorem stF_congr (f g : Nat → Int) : ∀ q, (∀ i, i < 64 * q → f i = g i) → stF f q = stF g q
  | 0, _ => rfl
  | q + 1, h => by
    rw [stF, stF, stF_congr f g q (fun i hi => h i (by omega)), wl_congr _ _ (fun i hi => h (64 * q + i) (by omega)) 64 (by omega)]

def byteAt (m : List Int) (i : Nat) : Int := m[i]?.getD 0
theorem byteAt_append (m l : List Int) {i : Nat} (h : i < m.length) : byteAt (m ++ l) i = byteAt m i := by unfold byteAt; rw [List.getElem?_append_left h]

/-- The cells of a hash, as a list. -/
def hashL (v : V8) (r : List Int) (n : Int) : List Value := Value.int .u32 v.a :: .int .u32 v.b :: .int .u32 v.c :: .int .u32 v.d :: .int .u32 v.e :: .int .u32 v.f :: .int .u32 v.g :: .int .u32 v.h :: (r.map (Value.int .u8) ++ [Value.int .i64 n])
theorem hashL_eq (v : V8) (r : List Int) (n : Int) : (hashL v r n).toArray = hashA v r n := rfl
theorem hashL_length (v : V8) (r : List Int) (n : Int) (h : r.length = 64) : (hashL v r n).length = 73 := by simp [hashL, h]
theorem hashL_splice (v : V8) (r : List Int) (n : Int) (off : Nat) (l : List Int) (h : off + l.length ≤ r.length) : splice (hashL v r n) (8 + off) (l.map (Value.int .u8)) = hashL v (splice r off l) n := by
  unfold splice hashL
  rw [show 8 + off = off + 8 by omega, List.length_map, show off + 8 + l.length = (off + l.length) + 8 by omega]
  simp only [List.take_succ_cons, List.drop_succ_cons, List.map_append, List.map_take, List.map_drop, List.cons_append]
  rw [List.take_append_of_le_length (by simp; omega), List.drop_append_of_le_length (by simp; omega)]
  simp
theorem splice_length (r : List Int) (off : Nat) (l : List Int) (h : off + l.length ≤ r.length) : (splice r off l).length = r.length := length_splice r off l h
theorem splice_low (r : List Int) (off : Nat) (l : List Int) {i : Nat} (hi : i < off) (h : off + l.length ≤ r.length) : (splice r off l)[i]? = r[i]? := by
  unfold splice; rw [List.getElem?_append_left (by simp; omega), List.getElem?_take, if_pos hi]
theorem splice_in (r : List Int) (off : Nat) (l : List Int) {i : Nat} (hi : i < l.length) (h : off + l.length ≤ r.length) : (splice r off l)[off + i]? = l[i]? := by
  unfold splice
  rw [List.getElem?_append_right (by simp; omega), List.length_take, Nat.min_eq_left (by omega), show off + i - off = i by omega, List.getElem?_append_left hi]

/-- The cells of a hash, one by one. -/
theorem hash_rest (v : V8) (r : List Int) (n : Int) {i : Nat} (h : r.length = 64) (hi : i < 64) : (hashA v r n)[8 + i]? = some (.int .u8 (r[i]?.getD 0)) := by
  rw [← hashL_eq, List.getElem?_toArray, hashL, show 8 + i = i + 8 by omega]
  simp only [List.getElem?_cons_succ]
  rw [List.getElem?_append_left (by simp; omega), List.getElem?_map, List.getElem?_eq_getElem (by omega)]
  rfl
theorem hash_len (v : V8) (r : List Int) (n : Int) (h : r.length = 64) : (hashA v r n)[72]? = some (.int .i64 n) := by
  rw [← hashL_eq, List.getElem?_toArray, hashL]
  simp only [List.getElem?_cons_succ]
  rw [List.getElem?_append_right (by simp [h])]
  simp [h]
theorem hash_set_len (v : V8) (r : List Int) (n n' : Int) (h : r.length = 64) : (hashA v r n).setIfInBounds 72 (.int .i64 n') = hashA v r n' := by
  rw [← hashL_eq, ← hashL_eq]
  apply Array.toList_inj.1
  rw [Array.toList_setIfInBounds]
  unfold hashL
  simp only [List.set_cons_succ]
  rw [List.set_append_right _ _ (by simp [h])]
  simp [h]

theorem Src.X {w : World} {h : Nat} {b o : Nat} {l : List Int} (hb : b ≠ h) (hc : ∀ i, i < l.length → w.cell? ⟨b, o + i, none⟩ = some (.int .u8 (l[i]?.getD 0))) {bs : List (Nat × Obj)} (s : HeldX w h bs) :
    ∀ i, i < l.length → s.w.cell? ⟨b, o + i, none⟩ = some (.int .u8 (l[i]?.getD 0)) := fun i hi => by
  have h1 := hc i hi
  rw [← h1]
  unfold World.cell?
  rw [s.but.block b (World.block_lt_of_cell? w _ h1) hb]

/-- Bytes are copied into the block that may be written. -/
theorem wpList_copy_X {P : Program} {w0 : World} {h g : Nat} {bs : List (Nat × Obj)} {ops : Array Oper} {rest : List Oper} {o : Oper} {a : Act} {Q : Exit → Act → World → Prop} (off : Nat) (cur : List Value) (t : TypeId)
    (s : HeldX w0 h ((g, .cells cur.toArray t (0, 0)) :: bs)) (hg : g = h ∨ w0.heap.size ≤ g) (hne : ∀ p ∈ bs, p.1 ≠ g) (d sr : Operand) (dT sT : TypeId)
    (hgd : o.guard = none) (ho : o.op = .call { callee := .builtin .copy, args := #[d, sr], argTypes := #[dT, sT] }) (elem : TypeId) (hu : P.underlying dT = some (.slice elem)) (hsz : (P.info? elem).map (·.size) = some 1)
    (dp sp : Option Addr) (dLen dCap sLen sCap : Nat) (hd : a.eval d = .slice dp dLen dCap) (hs : a.eval sr = .slice sp sLen sCap) (cs : List Value) (hn : cs.length = Nat.min sLen dLen) (k : Nat) (hk : cs.length = k)
    (hpos : 0 < cs.length → dp = some ⟨g, off, none⟩ ∧ ∃ ad, sp = some ad ∧ ∀ j v, cs[j]? = some v → s.w.cell? (ad.add j) = some v)
    (hfit : off + cs.length ≤ cur.length) (h1 : ∀ v ∈ cs, v.oneCell' = true)
    (H : ∀ s' : HeldX w0 h ((g, .cells (splice cur off cs).toArray t (0, 0)) :: bs), wpList P ops Q rest (a.put o.dst (goInt k)) s'.w) :
    wpList P ops Q (o :: rest) a s.w := by
  subst hk
  have hcur : s.w.heap[g]? = some (.cells cur.toArray t (0, 0)) := s.blocks (_, _) List.mem_cons_self
  by_cases h0 : cs.length = 0
  · obtain rfl : cs = [] := List.eq_nil_of_length_eq_zero h0
    have he : splice cur off [] = cur := by simp [splice]
    have := H (by rw [he]; exact s)
    refine wpList_copy_nothing hgd d sr dT sT ho elem hu hsz dp sp dLen dCap sLen sCap hd hs (by simpa using hn.symm) ?_
    have hw : ∀ (x : List Value) (hx : splice cur off [] = x) (s2 : HeldX w0 h ((g, .cells x.toArray t (0, 0)) :: bs)), wpList P ops Q rest (a.put o.dst (goInt 0)) s2.w := fun x hx s2 => by subst hx; exact H s2
    exact hw cur he s
  · obtain ⟨rfl, ad, rfl, hsrc⟩ := hpos (by omega)
    refine wpList_copy_own hgd d sr dT sT ho elem hu hsz g off dLen dCap ad sLen sCap hd hs cur.toArray t hcur cs hn hsrc (by simpa using hfit) h1 ?_
    exact H (s.row hg hne _)
end Go.Proofs.Ytgmjppjgbalapaa

/- take: the bytes of one part. -/
namespace Go.Proofs.Ytgmjppjgbalapaa
open Go.RowKit
set_option linter.unusedVariables false

theorem cell_src {w : World} {h b o : Nat} {l : List Int} (hb : b ≠ h) (hc : ∀ i, i < l.length → w.cell? ⟨b, o + i, none⟩ = some (.int .u8 (l[i]?.getD 0))) {bs : List (Nat × Obj)} (s : HeldX w h bs) {j : Nat} {v : Value}
    (hv : (l.map (Value.int .u8))[j]? = some v) : s.w.cell? ((⟨b, o, none⟩ : Addr).add j) = some v := by
  rw [List.getElem?_map] at hv
  obtain ⟨x, hx, rfl⟩ := Option.map_eq_some_iff.1 hv
  rw [Addr.add_mid, Src.X hb hc s j (List.getElem?_eq_some_iff.1 hx).1, hx]
  rfl

/-- What fills the block. -/
theorem fill_at (m l r : List Int) (q0 u : Nat) (hm : m.length = 64 * q0 + u) (hu : u < 64) (hr : r.length = 64) (hrm : ∀ i, i < u → r[i]? = m[64 * q0 + i]?) (hl : 64 ≤ u + l.length) {i : Nat} (hi : i < 64) :
    (splice r u (l.take (64 - u)))[i]?.getD 0 = byteAt (m ++ l) (64 * q0 + i) := by
  have hlt : (l.take (64 - u)).length = 64 - u := by rw [List.length_take]; omega
  unfold byteAt
  by_cases h : i < u
  · rw [splice_low _ _ _ h (by omega), hrm i h, List.getElem?_append_left (by omega)]
  · obtain ⟨j, rfl⟩ : ∃ j, i = u + j := ⟨i - u, by omega⟩
    rw [splice_in _ _ _ (by omega) (by omega), List.getElem?_append_right (by omega), List.getElem?_take, if_pos (by omega)]
    congr 2
    omega

def HeldX.as {w0 : World} {h : Nat} {o o' : Obj} (s : HeldX w0 h [(h, o)]) (e : o = o') : HeldX w0 h [(h, o')] := ⟨s.w, s.but, by rw [← e]; exact s.blocks⟩

end Go.Proofs.Ytgmjppjgbalapaa

/- take, New, Len and Clone of package sha. -/
namespace Go.Proofs.Ytgmjppjgbalapaa
open Go.RowKit
set_option linter.unusedVariables false

theorem hash_size (v : V8) (r : List Int) (n : Int) (h : r.length = 64) : (hashA v r n).size = 73 := by rw [← hashL_eq, List.size_toArray, hashL_length v r n h]
theorem hash_one (v : V8) (r : List Int) (n : Int) : (hashA v r n).all (·.oneCell') = true := by
  rw [Array.all_eq_true_iff_forall_mem]
  intro x hx
  rw [← hashL_eq, List.mem_toArray, hashL] at hx
  simp only [List.mem_cons, List.mem_append, List.mem_map, List.not_mem_nil, or_false] at hx
  rcases hx with rfl | rfl | rfl | rfl | rfl | rfl | rfl | rfl | ⟨_, _, rfl⟩ | rfl <;> rfl
/-- An empty block of a hash. -/
abbrev zeroV : V8 := ⟨0, 0, 0, 0, 0, 0, 0, 0⟩
def zeroA : Array Value := hashA zeroV (List.replicate 64 0) 0
end Go.Proofs.Ytgmjppjgbalapaa

/- Write of package sha. -/
namespace Go.Proofs.Ytgmjppjgbalapaa
open Go.RowKit
set_option linter.unusedVariables false

theorem Src.at {w : World} {h : Nat} {a : Option Addr} {l : List Int} (hs : Src w h a l) {bs : List (Nat × Obj)} (s : HeldX w h bs) : Src s.w h a l := fun hp => by
  obtain ⟨b, o, rfl, hb, hc⟩ := hs hp
  exact ⟨b, o, rfl, hb, Src.X hb hc s⟩
end Go.Proofs.Ytgmjppjgbalapaa

/- padding of package sha. -/
namespace Go.Proofs.Ytgmjppjgbalapaa
open Go.RowKit
set_option linter.unusedVariables false

/-- How many zero bytes follow. -/
def zerosOf (n : Nat) : Nat := (119 - n % 64) % 64
/-- The j lowest bytes of a number, the most significant one first. -/
def lowB (b : Nat) : Nat → List Int
  | 0 => []
  | j + 1 => ((b / 256 ^ j % 256 : Nat) : Int) :: lowB b j
theorem lowB_length (b j : Nat) : (lowB b j).length = j := by induction j with | zero => rfl | succ j ih => rw [lowB, List.length_cons, ih]
/-- The padding while it comes. -/
def padK (z b j : Nat) : List Int := 128 :: (List.replicate (z + 8 - j) 0 ++ lowB b j)
/-- What follows the bytes in a message. -/
def padL (n : Nat) : List Int := padK (zerosOf n) (n * 8) 8
theorem padK_length (z b : Nat) {j : Nat} (h : j ≤ z + 8) : (padK z b j).length = z + 9 := by
  unfold padK; rw [List.length_cons, List.length_append, List.length_replicate, lowB_length]; omega
theorem padK_set (z b : Nat) {j : Nat} (h : j < z + 8) : (padK z b j).set (z + 8 - j) ((b / 256 ^ j % 256 : Nat) : Int) = padK z b (j + 1) := by
  unfold padK
  obtain ⟨k, hk⟩ : ∃ k, z + 8 - j = k + 1 := ⟨z + 8 - j - 1, by omega⟩
  rw [hk, List.set_cons_succ, show z + 8 - (j + 1) = k by omega, List.replicate_succ', lowB]
  rw [List.append_assoc, List.set_append_right _ _ (by simp)]
  simp

end Go.Proofs.Ytgmjppjgbalapaa

/- digest of package sha: the bytes of the words of a state. -/
namespace Go.Proofs.Ytgmjppjgbalapaa
open Go.RowKit
set_option linter.unusedVariables false

/-- Byte j of a digest. -/
def digB (v : V8) (j : Nat) : Int := v.at (j / 4) / 2 ^ (24 - 8 * (j % 4)) % 256
/-- The first k bytes of a digest. -/
def digL (v : V8) (k : Nat) : List Int := (List.range k).map (digB v)
theorem digL_length (v : V8) (k : Nat) : (digL v k).length = k := by simp [digL]
/-- The cells of a digest while they come. -/
def digK (v : V8) (k : Nat) : List Int := digL v k ++ List.replicate (32 - k) 0
theorem digK_length (v : V8) {k : Nat} (h : k ≤ 32) : (digK v k).length = 32 := by unfold digK; rw [List.length_append, digL_length, List.length_replicate]; omega
theorem digK_set (v : V8) {k : Nat} (h : k < 32) : (digK v k).set k (digB v k) = digK v (k + 1) := by
  unfold digK
  obtain ⟨n, hn⟩ : ∃ n, 32 - k = n + 1 := ⟨31 - k, by omega⟩
  rw [hn, show 32 - (k + 1) = n by omega, List.set_append_right _ _ (by rw [digL_length]; omega), digL_length, Nat.sub_self, List.replicate_succ, List.set_cons_zero]
  unfold digL
  rw [List.range_succ, List.map_append]
  simp
theorem digK_end (v : V8) : digK v 32 = digL v 32 := by unfold digK; simp

theorem digB_at (v : V8) (k : Nat) {j : Nat} (hj : j < 4) : v.at k / 2 ^ (24 - 8 * j) % 256 = digB v (4 * k + j) := by
  unfold digB; rw [show (4 * k + j) / 4 = k by omega, show (4 * k + j) % 4 = j by omega]
abbrev dig0 (w : World) (v : V8) (k : Nat) : List (Nat × Obj) := [(w.heap.size + 1, .cells (byteA (digK v k)) 32 (0, 0)), (w.heap.size, .cells (byteA (digK v 0)) 32 (0, 0))]
theorem digStart (v : V8) (w : World) : ∃ s : HeldW w (dig0 w v 0), s.w = (w.alloc (.cells (byteA (digK v 0)) 32)).alloc (.cells (byteA (digK v 0)) 32) :=
  ⟨⟨_, ((Below.refl _ w).alloc (Nat.le_refl _) _).alloc (by simp) _, List.forall_mem_cons.2 ⟨heap_new _ _ (by simp), all1 (heap_old (heap_new _ _ rfl) _)⟩⟩, rfl⟩

end Go.Proofs.Ytgmjppjgbalapaa

/- Sum and Of of package sha. -/
namespace Go.Proofs.Ytgmjppjgbalapaa
open Go.RowKit
set_option linter.unusedVariables false

/-- The digest of bytes. -/
def shaL (m : List Int) : List Int := digL (stF (byteAt (m ++ padL m.length)) ((m ++ padL m.length).length / 64)) 32
theorem shaL_length (m : List Int) : (shaL m).length = 32 := digL_length _ _
theorem padL_length (n : Nat) : (padL n).length = zerosOf n + 9 := padK_length _ _ (by omega)

/-- A new digest. -/
abbrev zero32 : Array Value := #[Value.int .u8 0, Value.int .u8 0, Value.int .u8 0, Value.int .u8 0, Value.int .u8 0, Value.int .u8 0, Value.int .u8 0, Value.int .u8 0, Value.int .u8 0, Value.int .u8 0, Value.int .u8 0, Value.int .u8 0, Value.int .u8 0, Value.int .u8 0, Value.int .u8 0, Value.int .u8 0, Value.int .u8 0, Value.int .u8 0, Value.int .u8 0, Value.int .u8 0, Value.int .u8 0, Value.int .u8 0, Value.int .u8 0, Value.int .u8 0, Value.int .u8 0, Value.int .u8 0, Value.int .u8 0, Value.int .u8 0, Value.int .u8 0, Value.int .u8 0, Value.int .u8 0, Value.int .u8 0]
theorem two_blocks (w : World) (o1 o2 : Obj) : ∃ s : HeldW w [(w.heap.size + 1, o2), (w.heap.size, o1)], s.w = (w.alloc o1).alloc o2 :=
  ⟨⟨_, ((Below.refl _ w).alloc (Nat.le_refl _) _).alloc (by simp) _, List.forall_mem_cons.2 ⟨heap_new _ _ (by simp), all1 (heap_old (heap_new _ _ rfl) _)⟩⟩, rfl⟩
theorem Roots.W {w : World} {bs : List (Nat × Obj)} (hr : Roots w) (s : HeldW w bs) : Roots s.w := hr.below s.below

theorem Src.below {w w' : World} {h : Nat} {a : Option Addr} {l : List Int} (hs : Src w h a l) (hb : Below w.heap.size w w') : Src w' h a l := fun hp => by
  obtain ⟨b, o, rfl, hbh, hc⟩ := hs hp
  exact ⟨b, o, rfl, hbh, fun i hi => by rw [← hc i hi]; exact hb.cell (p := ⟨b, o + i, none⟩) (World.block_lt_of_cell? w _ (hc i hi))⟩
theorem PartsAt.below {w w' : World} {h : Nat} {pa : Option Addr} {ls : List (List Int)} (hs : PartsAt w h pa ls) (hb : Below w.heap.size w w') : PartsAt w' h pa ls := fun hp => by
  obtain ⟨b, o, rfl, hbh, hc⟩ := hs hp
  refine ⟨b, o, rfl, hbh, fun i hi => ?_⟩
  obtain ⟨a, cap, h1, h2, h3, h4⟩ := hc i hi
  exact ⟨a, cap, by rw [← h1]; exact hb.cell (p := ⟨b, o + i, none⟩) (World.block_lt_of_cell? w _ h1), h2, h3, h4.below hb⟩
theorem pad_held {P : Program} {f : FuncId} {args : Array Value} {n k : Nat} {t : TypeId} {l : List Int} {w0 : World} {bs : List (Nat × Obj)} {s : HeldW w0 bs}
    (hc : Calls P f args s.w fun e w' => e = .returned (.slice (some ⟨s.w.heap.size, 0, none⟩) n k) ∧ Below s.w.heap.size s.w w' ∧ w'.heap[s.w.heap.size]? = some (.cells (byteA l) t (0, 0))) :
    Calls P f args s.w fun e w'' => ∃ g, e = .returned (.slice (some ⟨g, 0, none⟩) n k) ∧ w0.heap.size ≤ g ∧ Hid (∀ p ∈ bs, p.1 ≠ g) ∧ ∃ s' : HeldW w0 ((g, .cells (byteA l) t (0, 0)) :: bs), w'' = s'.w :=
  hc.mono fun _ w'' ⟨he, hb, ho⟩ => ⟨_, he, s.below.size, fun p hp e => by have := (Array.getElem?_eq_some_iff.1 (s.blocks p hp)).1; omega,
    ⟨w'', s.below.trans (hb.mono s.below.size), List.forall_mem_cons.2 ⟨ho, fun p hp => (hb.block _ (Array.getElem?_eq_some_iff.1 (s.blocks p hp)).1).trans (s.blocks p hp)⟩⟩, rfl⟩

end Go.Proofs.Ytgmjppjgbalapaa

/- Describe and Make of package patch. -/
namespace Go.Proofs.Ytgmjppjgbalapaa
open Go.RowKit
set_option linter.unusedVariables false
set_option linter.unusedSimpArgs false

theorem uncons8 {l : List Int} {n : Nat} (h : l.length = n + 1) : ∃ a t, l = a :: t ∧ t.length = n := by
  cases l with
  | nil => simp at h
  | cons a t => exact ⟨a, t, rfl, by simpa using h⟩
set_option maxRecDepth 100000 in
set_option maxHeartbeats 4000000 in
theorem built_delta (o n : Int) (x y : List Int) (hx : x.length = 32) (hy : y.length = 32) :
    Try.prog.built 34 [(0, .int .i64 o), (1, .int .i64 n), (2, .agg (byteA x)), (3, .agg (byteA y))] = some (deltaA o n x y (.slice none 0 0)) := by
  obtain ⟨a0, at0, rfl, ah0⟩ := uncons8 hx
  obtain ⟨a1, at1, rfl, ah1⟩ := uncons8 ah0
  obtain ⟨a2, at2, rfl, ah2⟩ := uncons8 ah1
  obtain ⟨a3, at3, rfl, ah3⟩ := uncons8 ah2
  obtain ⟨a4, at4, rfl, ah4⟩ := uncons8 ah3
  obtain ⟨a5, at5, rfl, ah5⟩ := uncons8 ah4
  obtain ⟨a6, at6, rfl, ah6⟩ := uncons8 ah5
  obtain ⟨a7, at7, rfl, ah7⟩ := uncons8 ah6
  obtain ⟨a8, at8, rfl, ah8⟩ := uncons8 ah7
  obtain ⟨a9, at9, rfl, ah9⟩ := uncons8 ah8
  obtain ⟨a10, at10, rfl, ah10⟩ := uncons8 ah9
  obtain ⟨a11, at11, rfl, ah11⟩ := uncons8 ah10
  obtain ⟨a12, at12, rfl, ah12⟩ := uncons8 ah11
  obtain ⟨a13, at13, rfl, ah13⟩ := uncons8 ah12
  obtain ⟨a14, at14, rfl, ah14⟩ := uncons8 ah13
  obtain ⟨a15, at15, rfl, ah15⟩ := uncons8 ah14
  obtain ⟨a16, at16, rfl, ah16⟩ := uncons8 ah15
  obtain ⟨a17, at17, rfl, ah17⟩ := uncons8 ah16
  obtain ⟨a18, at18, rfl, ah18⟩ := uncons8 ah17
  obtain ⟨a19, at19, rfl, ah19⟩ := uncons8 ah18
  obtain ⟨a20, at20, rfl, ah20⟩ := uncons8 ah19
  obtain ⟨a21, at21, rfl, ah21⟩ := uncons8 ah20
  obtain ⟨a22, at22, rfl, ah22⟩ := uncons8 ah21
  obtain ⟨a23, at23, rfl, ah23⟩ := uncons8 ah22
  obtain ⟨a24, at24, rfl, ah24⟩ := uncons8 ah23
  obtain ⟨a25, at25, rfl, ah25⟩ := uncons8 ah24
  obtain ⟨a26, at26, rfl, ah26⟩ := uncons8 ah25
  obtain ⟨a27, at27, rfl, ah27⟩ := uncons8 ah26
  obtain ⟨a28, at28, rfl, ah28⟩ := uncons8 ah27
  obtain ⟨a29, at29, rfl, ah29⟩ := uncons8 ah28
  obtain ⟨a30, at30, rfl, ah30⟩ := uncons8 ah29
  obtain ⟨a31, at31, rfl, ah31⟩ := uncons8 ah30
  obtain rfl := List.eq_nil_of_length_eq_zero ah31
  obtain ⟨b0, bt0, rfl, bh0⟩ := uncons8 hy
  obtain ⟨b1, bt1, rfl, bh1⟩ := uncons8 bh0
  obtain ⟨b2, bt2, rfl, bh2⟩ := uncons8 bh1
  obtain ⟨b3, bt3, rfl, bh3⟩ := uncons8 bh2
  obtain ⟨b4, bt4, rfl, bh4⟩ := uncons8 bh3
  obtain ⟨b5, bt5, rfl, bh5⟩ := uncons8 bh4
  obtain ⟨b6, bt6, rfl, bh6⟩ := uncons8 bh5
  obtain ⟨b7, bt7, rfl, bh7⟩ := uncons8 bh6
  obtain ⟨b8, bt8, rfl, bh8⟩ := uncons8 bh7
  obtain ⟨b9, bt9, rfl, bh9⟩ := uncons8 bh8
  obtain ⟨b10, bt10, rfl, bh10⟩ := uncons8 bh9
  obtain ⟨b11, bt11, rfl, bh11⟩ := uncons8 bh10
  obtain ⟨b12, bt12, rfl, bh12⟩ := uncons8 bh11
  obtain ⟨b13, bt13, rfl, bh13⟩ := uncons8 bh12
  obtain ⟨b14, bt14, rfl, bh14⟩ := uncons8 bh13
  obtain ⟨b15, bt15, rfl, bh15⟩ := uncons8 bh14
  obtain ⟨b16, bt16, rfl, bh16⟩ := uncons8 bh15
  obtain ⟨b17, bt17, rfl, bh17⟩ := uncons8 bh16
  obtain ⟨b18, bt18, rfl, bh18⟩ := uncons8 bh17
  obtain ⟨b19, bt19, rfl, bh19⟩ := uncons8 bh18
  obtain ⟨b20, bt20, rfl, bh20⟩ := uncons8 bh19
  obtain ⟨b21, bt21, rfl, bh21⟩ := uncons8 bh20
  obtain ⟨b22, bt22, rfl, bh22⟩ := uncons8 bh21
  obtain ⟨b23, bt23, rfl, bh23⟩ := uncons8 bh22
  obtain ⟨b24, bt24, rfl, bh24⟩ := uncons8 bh23
  obtain ⟨b25, bt25, rfl, bh25⟩ := uncons8 bh24
  obtain ⟨b26, bt26, rfl, bh26⟩ := uncons8 bh25
  obtain ⟨b27, bt27, rfl, bh27⟩ := uncons8 bh26
  obtain ⟨b28, bt28, rfl, bh28⟩ := uncons8 bh27
  obtain ⟨b29, bt29, rfl, bh29⟩ := uncons8 bh28
  obtain ⟨b30, bt30, rfl, bh30⟩ := uncons8 bh29
  obtain ⟨b31, bt31, rfl, bh31⟩ := uncons8 bh30
  obtain rfl := List.eq_nil_of_length_eq_zero bh31
  kernel_rfl

/-- A slice of bytes as the only part. -/
abbrev partBox (a : Option Addr) (n cap : Nat) : Obj := .cells #[.slice a n cap] 24 (0, 0)
/-- A row of commands is a slice of commands. -/
theorem CmdRow.slice {w : World} {b : Option Addr} {x : List Int} {capx : Nat} {L : List Core8} {v : Value} {wr : World} (R : CmdRow w b x capx L v wr) : ∃ (cs : List Cmd) (a : Option Addr) (cap : Nat), v = .slice a cs.length cap ∧ CmdsIn wr a cs cap ∧ cores cs = L := by
  obtain ⟨cs, els, S, rfl, hco, hok, hdat⟩ := R
  obtain ⟨a, cap, rfl, hcs⟩ := row_cmds (W := S.w) (base := w.heap.size) (n := cs.length) (v := v) (cs := cs) S.own rfl (fun c hc => by
    obtain ⟨⟨h1, h2, h3, h4⟩, h5, h6, _⟩ := hok c hc
    exact ⟨h1, h2, h3, h4, (S.el _ h6).1, h5⟩)
  exact ⟨cs, a, cap, rfl, hcs, hco⟩
/-- The delta that Make returns. -/
def MakePost (l x : List Int) (block : Int) (w : World) (e : Ending) (w' : World) : Prop :=
  ∃ (D' : Array Value) (g : Nat) (ds : List Cmd), e = .returned (.agg D') ∧ DeltaOf D' l.length x.length (shaL l) (shaL x) (.slice (some ⟨g, 0, none⟩) ds.length ds.length) ∧ CmdsIn w' (some ⟨g, 0, none⟩) ds ds.length ∧ cores ds = makeC l x block ∧ Below w.heap.size w w' ∧ w.heap.size ≤ g ∧ ∀ c ∈ ds, Apart w.heap.size c.a
theorem makeC_data {l x : List Int} {block : Int} : ∀ c ∈ makeC l x block, c.2.2.2.2.length ≤ x.length := fun c hc => by
  rcases (makeC_ok l x block).1 c hc with ⟨-, -, -, -, h, -⟩ | ⟨-, h1, -, -, -, h⟩
  · rw [h]; simp
  · omega
end Go.Proofs.Ytgmjppjgbalapaa

/- Make of package patch. -/
namespace Go.Proofs.Ytgmjppjgbalapaa
open Go.RowKit
set_option linter.unusedVariables false
set_option linter.unusedSimpArgs false

theorem chain_few {n : Int} : ∀ (T : List (Int × Int)) (lo : Int), (∀ p ∈ T, 1 ≤ p.2) → Chain n lo T → (T.length : Int) ≤ n - lo := by
  intro T
  induction T with
  | nil => intro lo _ h; have : lo = n := h; simp; omega
  | cons p T ih =>
    intro lo h1 h
    obtain ⟨h2, h3⟩ := h
    have := ih _ (fun q hq => h1 q (List.mem_cons_of_mem _ hq)) h3
    have := h1 p List.mem_cons_self
    simp only [List.length_cons]
    omega
theorem makeC_few {l x : List Int} {block : Int} : (makeC l x block).length ≤ x.length := by
  obtain ⟨h1, h2, -⟩ := makeC_ok l x block
  have := chain_few _ _ (fun p hp => by
    obtain ⟨c, hc, rfl⟩ := List.mem_map.1 hp
    simp only
    unfold lenC wlen
    rcases h1 c hc with ⟨e, -, -, h, -⟩ | ⟨e, -, -, -, h, -⟩
    · rw [if_pos e]; exact h
    · rw [if_neg (by omega)]; omega) h2
  rw [List.length_map] at this
  omega

end Go.Proofs.Ytgmjppjgbalapaa

/- fits and content of package patch. -/
namespace Go.Proofs.Ytgmjppjgbalapaa
open Go.RowKit
set_option linter.unusedVariables false
set_option linter.unusedSimpArgs false

set_option maxRecDepth 100000 in
set_option maxHeartbeats 4000000 in
theorem pfits_any (a : Option Addr) (L cap : Nat) (D : Array Value) (o n : Int) (x y : List Int) (ca : Option Addr) (cs : List Cmd) (ccap : Nat) (hD : DeltaOf D o n x y (.slice ca cs.length ccap)) (w : World) (h : CmdsIn w ca cs ccap) (hL : cs.length ≤ 1000000) (ho : I64 o) (hn : I64 n) :
    Calls Try.prog 43 #[.slice a L cap, .agg D] w (Gives (.bool (decide (o = (L : Int) ∧ (faultOf o n cs).1 = 0))) w) := by
  obtain ⟨S, hS⟩ := start1 w (deltaO D)
  have hc := dvalid_any D o n x y ca cs ccap hD S.w (h.W S) hL ho hn
  have hinf := infoDelta hD
  have hg : (w.alloc (deltaO D)).heap[w.heap.size]? = some (deltaO D) := heap_new w _ rfl
  have c0 : (w.alloc (deltaO D)).cell? ⟨w.heap.size, 0, none⟩ = some (.int .i64 o) := (cell_of hg 0).trans hD.c0
  have HS := Lib.hid hS
  generalize (faultOf o n cs).1 = F at *
  clear hD h hL ho hn hS
  by_cases he : o = (L : Int)
  · have e1 : (o == (L : Int)) = true := by simpa using he
    have HE := Lib.hid he
    clear he
    go_enter Try.func43, Try.ntmps43
    go_wp2_with (refine wpList_load_rowG rfl 34 (.tmp 3) rfl (some 11) rfl w.heap.size rfl 34 _ (0, 0) _ hg Try.underlying34 rfl hinf ?_)
    rw [HS.out]
    clear hg c0 e1
    refine (HeldW.call hc).mono ?_
    rintro e _ ⟨rfl, s2, rfl⟩
    go_wp2
    go_ret
    exact ⟨by simp [HE.out], s2.below⟩
  · have e1 : (o == (L : Int)) = false := by simpa using he
    have HE := Lib.hid he
    clear he
    go_enter Try.func43, Try.ntmps43
    go_wp2
    go_ret
    exact ⟨by simp [HE.out], by rw [HS.out]; exact S.below⟩


set_option maxRecDepth 100000 in
set_option maxHeartbeats 4000000 in
theorem content_lit (a : Option Addr) (L cap : Nat) (t f n : Int) (m : List Int) (A : Option Addr) (C : Nat) (w : World) (h : BytesIn w A m C) :
    Calls Try.prog 44 #[.slice a L cap, cmdV 2 t f n (.slice A m.length C)] w (Gives (.slice A m.length C) w) := by
  obtain ⟨S, hS⟩ := start1 w (cmdO 2 t f n (.slice A m.length C))
  have hc := msource_lit t f n A m.length C S.w
  obtain ⟨c0, c1, c2, c3, c4⟩ := cmd_cells (heap_new w (cmdO 2 t f n (.slice A m.length C)) rfl)
  have HS := Lib.hid hS
  have HB := Lib.hid h
  obtain ⟨POST, hP⟩ : ∃ P, P = Gives (.slice A m.length C) w := ⟨_, rfl⟩
  have HQ : Hid (∀ s : HeldW w [(w.heap.size, cmdO 2 t f n (.slice A m.length C))], ∀ W, Below s.w.heap.size s.w W → POST (.returned (.slice A m.length C)) W) := Lib.hid fun s W hb => by
    rw [hP]
    exact ⟨rfl, s.below.trans (hb.mono s.below.size)⟩
  rw [← hP]
  generalize m.length = M at *
  clear hP hS h
  go_enter Try.func44, Try.ntmps44
  go_wp2_with fail
  rw [HS.out]
  clear c0 c1 c2 c3 c4
  refine (HeldW.call hc).mono ?_
  rintro e _ ⟨rfl, s2, rfl⟩
  obtain ⟨c0, c1, c2, c3, c4⟩ := cmd_later (s2.blocks (w.heap.size, cmdO 2 t f n (.slice A M C)) (by simp)) (s2.w.alloc (extO (0, 0))) (by exact (Below.refl _ _).alloc (Nat.le_refl _) _)
  have HQ2 := Lib.hid (HQ.out s2 (s2.w.alloc (extO (0, 0))) ((Below.refl _ _).alloc (Nat.le_refl _) _))
  clear HQ hc HS HB
  go_wp2
  exact HQ2.out

set_option maxRecDepth 100000 in
set_option maxHeartbeats 4000000 in
theorem content_copy (a : Option Addr) (LL cap : Nat) (t : Int) (f n : Nat) (A Q : Option Addr) (C m : Nat) (w : World) (hlc : LL ≤ cap) (hlcap : cap ≤ 9223372036854775807) (hfn : f + n ≤ LL)
    (e3 : ∀ W, (Instr.slice 24 (.slice (slA8 a cap f) (LL - f) (cap - f)) none (some (.int .i64 (n : Int))) none).run Try.prog W = .ok (.slice Q n (cap - f)) W) :
    Calls Try.prog 44 #[.slice a LL cap, cmdV 1 t f n (.slice A m C)] w (Gives (.slice Q n (cap - f)) w) := by
  obtain ⟨S, hS⟩ := start1 w (cmdO 1 t f n (.slice A m C))
  have hc := msource_copy t f n A m C S.w
  obtain ⟨c0, c1, c2, c3, c4⟩ := cmd_cells (heap_new w (cmdO 1 t f n (.slice A m C)) rfl)
  have HS := Lib.hid hS
  have e2 := fun W => cut8_l (a := a) f (show f ≤ LL by omega) hlc W
  obtain ⟨POST, hP⟩ : ∃ P, P = Gives (.slice Q n (cap - f)) w := ⟨_, rfl⟩
  have HQ : Hid (∀ W, Below w.heap.size w W → POST (.returned (.slice Q n (cap - f))) W) := Lib.hid fun W hb => by
    rw [hP]
    exact ⟨rfl, hb⟩
  rw [← hP]
  clear hP hS
  go_enter Try.func44, Try.ntmps44
  go_wp2_with fail
  rw [HS.out]
  clear c0 c1 c2 c3 c4
  refine (HeldW.call hc).mono ?_
  rintro e _ ⟨rfl, s2, rfl⟩
  obtain ⟨B, s3, hB, hB0, hlt, hS3⟩ := s2.more1 (extO ((f : Int), (n : Int)))
  obtain ⟨d0, d1⟩ := held_extA s3 B ((f : Int), (n : Int)) (by simp)
  have HS3 := Lib.hid (And.intro hB hS3)
  clear hc HS hB hS3 hlt S
  go_wp2_with fail
  rw [HS3.out.2, ← HS3.out.1]
  refine wp_region_class w [(B, extO ((f : Int), (n : Int))), (w.heap.size, cmdO 1 t f n (.slice A m C))] (by kernel_rfl) (by kernel_rfl) s3.below s3.blocks (fun hne => ?_)
  clear HS3
  repeat (go_big_quiet_step (fail))
  refine wpQuiet_nil ?_
  rintro _ ⟨s4, rfl⟩
  clear hne d0 d1 e2 e3
  go_wp2
  exact HQ.out s4.w s4.below
/-- The bytes that a command of a valid delta writes: where they lie is known ahead of the call. -/
theorem content_any {o n : Int} {l : List Int} {a : Option Addr} {cap : Nat} {c : Cmd} {w : World} (hl : BytesIn w a l cap) (ho : (l.length : Int) = o) (hs : single o n c = 0) (hc : CmdOK w c) :
    ∃ A C, BytesIn w A (c.cont l) C ∧ ∀ W, Below w.heap.size w W → Calls Try.prog 44 #[.slice a l.length cap, cmdV c.k c.t c.f c.n (.slice c.a c.l.length c.cap)] W (Gives (.slice A (c.cont l).length C) W) := by
  obtain ⟨h1, h2, h3⟩ := single_ok hs
  have hk : c.k = 1 ∨ c.k = 2 := (cont_len ho hs).2
  rcases hk with hk | hk
  · obtain ⟨q1, q2⟩ := h3 hk
    have hw : c.w = c.n := by unfold Cmd.w wlen; rw [if_pos hk]
    obtain ⟨f, hf⟩ : ∃ f : Nat, c.f = f := ⟨c.f.toNat, by omega⟩
    obtain ⟨n', hn⟩ : ∃ n' : Nat, c.n = n' := ⟨c.n.toNat, by omega⟩
    have hcont : c.cont l = (l.drop f).take n' := by
      unfold Cmd.cont contC Cmd.core
      simp only
      rw [if_pos hk, hf, hn, Int.toNat_natCast, Int.toNat_natCast]
    have hfr := hl.from8 f (by omega)
    obtain ⟨Q, e3, hQ⟩ := cutb_h hfr n' (by rw [List.length_drop]; omega)
    rw [List.length_drop] at e3
    have hlen : (c.cont l).length = n' := by rw [hcont]; simp; omega
    refine ⟨Q, cap - f, by rw [hcont]; exact hQ, fun W hb => ?_⟩
    rw [hk, hf, hn, hlen]
    exact content_copy a l.length cap c.t f n' c.a Q c.cap c.l.length W hl.len hl.capb (by omega) e3
  · have hcont : c.cont l = c.l := by
      unfold Cmd.cont contC Cmd.core
      simp only
      rw [if_neg (by omega)]
    refine ⟨c.a, c.cap, by rw [hcont]; exact hc.b, fun W hb => ?_⟩
    rw [hk, hcont]
    refine (content_lit a l.length cap c.t c.f c.n c.l c.a c.cap W (hc.b.below hb)).mono ?_
    exact fun e w' h => h

end Go.Proofs.Ytgmjppjgbalapaa
