/- Hexadecimal digits: plain mathematics. -/
import Derived.Lib.Bytealg
import Derived.Test.YtnpcocjjmajifaaDoor02Eq
namespace Go.Proofs.YtnpcocjjmajifaaDoor
open Go.RowKit
set_option linter.unusedVariables false

/-- The number of a digit, or -1. -/
def hexV (c : Int) : Int := if 48 ≤ c ∧ c ≤ 57 then c - 48 else if 97 ≤ c ∧ c ≤ 102 then c - 87 else -1
theorem hexV_bd (c : Int) : -1 ≤ hexV c ∧ hexV c ≤ 15 := by
  unfold hexV
  split
  · omega
  · split <;> omega
theorem hexV_hexD {x : Int} (h0 : 0 ≤ x) (h1 : x < 16) : hexV (hexD x) = x := by rcases lt16 h0 h1 with rfl | rfl | rfl | rfl | rfl | rfl | rfl | rfl | rfl | rfl | rfl | rfl | rfl | rfl | rfl | rfl <;> decide
theorem hexD_bd {x : Int} (h0 : 0 ≤ x) (h1 : x < 16) : 0 ≤ hexD x ∧ hexD x < 256 := by rcases lt16 h0 h1 with rfl | rfl | rfl | rfl | rfl | rfl | rfl | rfl | rfl | rfl | rfl | rfl | rfl | rfl | rfl | rfl <;> decide
theorem hexD_hexV {c : Int} (h : 0 ≤ hexV c) : hexD (hexV c) = c := by
  unfold hexV at h ⊢
  split at h
  · rename_i h1
    rw [if_pos h1]
    obtain ⟨h2, h3⟩ := h1
    have : c = 48 ∨ c = 49 ∨ c = 50 ∨ c = 51 ∨ c = 52 ∨ c = 53 ∨ c = 54 ∨ c = 55 ∨ c = 56 ∨ c = 57 := by omega
    rcases this with rfl | rfl | rfl | rfl | rfl | rfl | rfl | rfl | rfl | rfl <;> decide
  · rename_i h1
    rw [if_neg h1]
    split at h
    · rename_i h4
      rw [if_pos h4]
      obtain ⟨h2, h3⟩ := h4
      have : c = 97 ∨ c = 98 ∨ c = 99 ∨ c = 100 ∨ c = 101 ∨ c = 102 := by omega
      rcases this with rfl | rfl | rfl | rfl | rfl | rfl <;> decide
    · omega

/-- The bytes of a string, as numbers. -/
def chars (s : ByteArray) : List Int := s.data.toList.map fun b => (b.toNat : Int)
theorem chars_length (s : ByteArray) : (chars s).length = s.size := by unfold chars; rw [List.length_map, Array.length_toList]; rfl
theorem chars_bd (s : ByteArray) : ∀ c ∈ chars s, 0 ≤ c ∧ c < 256 := fun c hc => by
  unfold chars at hc
  obtain ⟨b, _, rfl⟩ := List.mem_map.1 hc
  have := b.toNat_lt
  omega
theorem chars_inj {a b : ByteArray} (h : chars a = chars b) : a = b := by
  unfold chars at h
  have h2 : a.data.toList = b.data.toList := by
    apply List.ext_getElem?
    intro i
    have := congrArg (·[i]?) h
    simp only [List.getElem?_map] at this
    cases ha : a.data.toList[i]? <;> cases hb : b.data.toList[i]? <;> simp [ha, hb] at this ⊢
    exact UInt8.toNat_inj.1 (by exact_mod_cast this)
  cases a; cases b
  simp only [ByteArray.mk.injEq]
  exact Array.toList_inj.1 h2
theorem strOf_snoc (l : List Int) (x : Int) : strOf (l ++ [x]) = (strOf l).push (UInt8.ofNat x.toNat) := by unfold strOf; rw [List.foldl_append]; rfl
theorem chars_push (s : ByteArray) (b : UInt8) : chars (s.push b) = chars s ++ [(b.toNat : Int)] := by unfold chars; simp [ByteArray.push]
theorem chars_strOf (l : List Int) (h : ∀ c ∈ l, 0 ≤ c ∧ c < 256) : chars (strOf l) = l := by
  have key : ∀ (n : Nat) (l : List Int), l.length = n → (∀ c ∈ l, 0 ≤ c ∧ c < 256) → chars (strOf l) = l := by
    intro n
    induction n with
    | zero =>
      intro l hl _
      obtain rfl := List.eq_nil_of_length_eq_zero hl
      rfl
    | succ n ih =>
      intro l hl hb
      obtain ⟨l', x, rfl⟩ : ∃ l' x, l = l' ++ [x] := ⟨l.dropLast, l.getLast (by intro h0; rw [h0] at hl; simp at hl), (List.dropLast_concat_getLast _).symm⟩
      rw [strOf_snoc, chars_push, ih l' (by simp at hl; exact hl) (fun c hc => hb c (List.mem_append_left _ hc))]
      have := hb x (by simp)
      have hx : ((UInt8.ofNat x.toNat).toNat : Int) = x := by
        rw [UInt8.toNat_ofNat']
        omega
      rw [hx]
  exact key _ l rfl h
theorem strOf_chars (s : ByteArray) : strOf (chars s) = s := chars_inj (chars_strOf _ (chars_bd s))

/-- All bytes are digits, and there are 64. -/
def rightB (cs : List Int) : Bool := cs.all (fun c => decide (0 ≤ hexV c)) && cs.length == 64
/-- The i-th byte that the digits say. -/
def parseB (cs : List Int) (i : Nat) : Int := 16 * hexV (cs[2 * i]?.getD 0) + hexV (cs[2 * i + 1]?.getD 0)
def parseL (cs : List Int) (k : Nat) : List Int := (List.range k).map (parseB cs)
theorem parseL_length (cs : List Int) (k : Nat) : (parseL cs k).length = k := by simp [parseL]

theorem hexL_get (d : List Int) {i : Nat} (h : i < d.length) : (hexL d)[2 * i]?.getD 0 = hexD (d[i]?.getD 0 / 16) ∧ (hexL d)[2 * i + 1]?.getD 0 = hexD (d[i]?.getD 0 % 16) := by
  induction d generalizing i with
  | nil => simp at h
  | cons x d ih =>
    have hc : hexL (x :: d) = hexD (x / 16) :: hexD (x % 16) :: hexL d := rfl
    rw [hc]
    cases i with
    | zero => exact ⟨rfl, rfl⟩
    | succ i =>
      have := ih (i := i) (by simpa using h)
      rw [show 2 * (i + 1) = (2 * i) + 1 + 1 by omega, show 2 * i + 1 + 1 + 1 = (2 * i + 1) + 1 + 1 by omega]
      simpa using this
theorem hexL_bd (d : List Int) (hb : ∀ b ∈ d, 0 ≤ b ∧ b < 256) : ∀ c ∈ hexL d, 0 ≤ c ∧ c < 256 ∧ 0 ≤ hexV c := fun c hc => by
  unfold hexL at hc
  obtain ⟨b, hbm, hcm⟩ := List.mem_flatMap.1 hc
  have h1 := hb b hbm
  simp only [List.mem_cons, List.not_mem_nil, or_false] at hcm
  rcases hcm with rfl | rfl
  · have h2 := hexD_bd (x := b / 16) (by omega) (by omega)
    have h3 := hexV_hexD (x := b / 16) (by omega) (by omega)
    omega
  · have h2 := hexD_bd (x := b % 16) (by omega) (by omega)
    have h3 := hexV_hexD (x := b % 16) (by omega) (by omega)
    omega
theorem parse_hexL (d : List Int) (hl : d.length = 32) (hb : ∀ b ∈ d, 0 ≤ b ∧ b < 256) : parseL (hexL d) 32 = d := by
  apply List.ext_getElem?
  intro i
  unfold parseL
  by_cases hi : i < 32
  · rw [List.getElem?_map, List.getElem?_range hi, List.getElem?_eq_getElem (by omega)]
    obtain ⟨h1, h2⟩ := hexL_get d (i := i) (by omega)
    simp only [Option.map_some, parseB, h1, h2]
    rw [List.getElem?_eq_getElem (by omega), Option.getD_some]
    have hm := hb _ (List.getElem_mem (show i < d.length by omega))
    rw [hexV_hexD (by omega) (by omega), hexV_hexD (by omega) (by omega)]
    congr 1
    omega
  · rw [List.getElem?_eq_none (by simp; omega), List.getElem?_eq_none (by omega)]
theorem right_hexL (d : List Int) (hl : d.length = 32) (hb : ∀ b ∈ d, 0 ≤ b ∧ b < 256) : rightB (hexL d) = true := by
  unfold rightB
  rw [Bool.and_eq_true, List.all_eq_true]
  exact ⟨fun c hc => by simpa using (hexL_bd d hb c hc).2.2, by rw [hexL_length, hl]; rfl⟩
theorem hexL_snoc (d : List Int) (x : Int) : hexL (d ++ [x]) = hexL d ++ [hexD (x / 16), hexD (x % 16)] := by unfold hexL; rw [List.flatMap_append]; simp
theorem hexL_parse (cs : List Int) (h : rightB cs = true) : hexL (parseL cs 32) = cs := by
  unfold rightB at h
  rw [Bool.and_eq_true, List.all_eq_true, beq_iff_eq] at h
  obtain ⟨ha, hl⟩ := h
  have hv : ∀ j, j < 64 → 0 ≤ hexV (cs[j]?.getD 0) ∧ hexD (hexV (cs[j]?.getD 0)) = cs[j]?.getD 0 := fun j hj => by
    rw [List.getElem?_eq_getElem (by omega), Option.getD_some]
    have h1 := ha _ (List.getElem_mem (show j < cs.length by omega))
    have h2 : 0 ≤ hexV cs[j] := by simpa using h1
    exact ⟨h2, hexD_hexV h2⟩
  have key : ∀ k, k ≤ 32 → hexL (parseL cs k) = cs.take (2 * k) := by
    intro k
    induction k with
    | zero => intro _; simp [parseL, hexL]
    | succ k ih =>
      intro hk
      have hp : parseL cs (k + 1) = parseL cs k ++ [parseB cs k] := by unfold parseL; rw [List.range_succ, List.map_append]; rfl
      rw [hp, hexL_snoc, ih (by omega), show 2 * (k + 1) = 2 * k + 1 + 1 by omega, List.take_succ_eq_append_getElem (show 2 * k + 1 < cs.length by omega), List.take_succ_eq_append_getElem (show 2 * k < cs.length by omega)]
      obtain ⟨v0, e0⟩ := hv (2 * k) (by omega)
      obtain ⟨v1, e1⟩ := hv (2 * k + 1) (by omega)
      have b0 := (hexV_bd (cs[2 * k]?.getD 0)).2
      have b1 := (hexV_bd (cs[2 * k + 1]?.getD 0)).2
      have hd : parseB cs k / 16 = hexV (cs[2 * k]?.getD 0) := by unfold parseB; omega
      have hm : parseB cs k % 16 = hexV (cs[2 * k + 1]?.getD 0) := by unfold parseB; omega
      rw [hd, hm, e0, e1, List.getElem?_eq_getElem (show 2 * k < cs.length by omega), List.getElem?_eq_getElem (show 2 * k + 1 < cs.length by omega), List.append_assoc]
      rfl
  rw [key 32 (by omega), List.take_of_length_le (by omega)]
theorem parseB_bd (cs : List Int) (h : rightB cs = true) : ∀ i, i < 32 → 0 ≤ (parseL cs 32)[i]?.getD 0 ∧ (parseL cs 32)[i]?.getD 0 < 256 := fun i hi => by
  unfold rightB at h
  rw [Bool.and_eq_true, List.all_eq_true, beq_iff_eq] at h
  obtain ⟨ha, hl⟩ := h
  unfold parseL
  rw [List.getElem?_map, List.getElem?_range hi]
  simp only [Option.map_some, Option.getD_some, parseB]
  have hv : ∀ j, j < 64 → 0 ≤ hexV (cs[j]?.getD 0) := fun j hj => by
    rw [List.getElem?_eq_getElem (by omega), Option.getD_some]
    simpa using ha _ (List.getElem_mem (show j < cs.length by omega))
  have h0 := hv (2 * i) (by omega)
  have h1 := hv (2 * i + 1) (by omega)
  have h2 := (hexV_bd (cs[2 * i]?.getD 0)).2
  have h3 := (hexV_bd (cs[2 * i + 1]?.getD 0)).2
  omega
end Go.Proofs.YtnpcocjjmajifaaDoor
