/- Plain mathematics for package sha. -/
import Derived.WalkKit
namespace Go.Proofs.YtnpcocjjmajifaaDoor
open Go.RowKit
set_option linter.unusedVariables false

/-- A row of 64 words, the first of which are known. -/
def rowW (l : List Int) : Array Value := (l.map (Value.int .u32) ++ List.replicate (64 - l.length) (Value.int .u32 0)).toArray
theorem rowW_get (l : List Int) (i : Nat) (h : i < l.length) : (rowW l)[i]? = some (.int .u32 (l.getD i 0)) := by
  unfold rowW
  simp only [List.getElem?_toArray]
  rw [List.getElem?_append_left (by simpa using h)]
  simp [h]
theorem rowW_size (l : List Int) (h : l.length ≤ 64) : (rowW l).size = 64 := by unfold rowW; simp; omega
theorem rowW_set (l : List Int) (v : Int) (h : l.length < 64) : (rowW l).setIfInBounds l.length (.int .u32 v) = rowW (l ++ [v]) := by
  unfold rowW
  obtain ⟨n, hn⟩ : ∃ n, 64 - l.length = n + 1 := ⟨63 - l.length, by omega⟩
  have h2 : 64 - (l ++ [v]).length = n := by simp; omega
  rw [hn, h2]
  apply Array.toList_inj.1
  simp only [Array.toList_setIfInBounds, List.map_append, List.map_cons, List.map_nil, List.replicate_succ, List.append_assoc]
  rw [List.set_append_right _ _ (by simp)]
  simp
theorem rowW_zero (l : List Int) (i : Nat) (h : l.length ≤ i) (hi : i < 64) : (rowW l)[i]? = some (.int .u32 0) := by
  unfold rowW
  simp only [List.getElem?_toArray]
  rw [List.getElem?_append_right (by simpa using h), List.getElem?_replicate, if_pos (by simp; omega)]

theorem rowW_one (l : List Int) : (rowW l).all (·.oneCell') = true := by
  unfold rowW
  rw [Array.all_eq_true_iff_forall_mem]
  intro v hv
  simp only [List.mem_toArray, List.mem_append, List.mem_map, List.mem_replicate] at hv
  rcases hv with ⟨n, _, rfl⟩ | ⟨_, rfl⟩ <;> rfl

/-- A word out of four bytes. -/
def word0 (f : Nat → Int) (k : Nat) : Int :=
  bits .or .u32 (bits .or .u32 (bits .or .u32 (f (4 * k) % 4294967296 * 16777216 % 4294967296) (f (4 * k + 1) % 4294967296 * 65536 % 4294967296)) (f (4 * k + 2) % 4294967296 * 256 % 4294967296)) (f (4 * k + 3) % 4294967296)

/-- The 64 constants. -/
def rootsL : List Int := [1116352408, 1899447441, 3049323471, 3921009573, 961987163, 1508970993, 2453635748, 2870763221, 3624381080, 310598401, 607225278, 1426881987, 1925078388, 2162078206, 2614888103, 3248222580, 3835390401, 4022224774, 264347078, 604807628, 770255983, 1249150122, 1555081692, 1996064986, 2554220882, 2821834349, 2952996808, 3210313671, 3336571891, 3584528711, 113926993, 338241895, 666307205, 773529912, 1294757372, 1396182291, 1695183700, 1986661051, 2177026350, 2456956037, 2730485921, 2820302411, 3259730800, 3345764771, 3516065817, 3600352804, 4094571909, 275423344, 430227734, 506948616, 659060556, 883997877, 958139571, 1322822218, 1537002063, 1747873779, 1955562222, 2024104815, 2227730452, 2361852424, 2428436474, 2756734187, 3204031479, 3329325298]
theorem rootsL_length : rootsL.length = 64 := rfl

/-- The words of a state. -/
structure V8 where
  (a b c d e f g h : Int)
def V8.list (v : V8) : List Int := [v.a, v.b, v.c, v.d, v.e, v.f, v.g, v.h]

/-- The cells of a hash. -/
def hashA (v : V8) (r : List Int) (n : Int) : Array Value := (Value.int .u32 v.a :: .int .u32 v.b :: .int .u32 v.c :: .int .u32 v.d :: .int .u32 v.e :: .int .u32 v.f :: .int .u32 v.g :: .int .u32 v.h :: (r.map (Value.int .u8) ++ [Value.int .i64 n])).toArray
end Go.Proofs.YtnpcocjjmajifaaDoor
