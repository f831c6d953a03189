/- Strings out of bytes. -/
import Derived.Laws.BytesString
import Derived.Laws.StructEq
import Derived.Test.Ytifdeeaoaekokaa00Open
namespace Go.Proofs.Ytifdeeaoaekokaa
open Go.RowKit
set_option linter.unusedVariables false

/-- A string out of its bytes. -/
def strOf (l : List Int) : ByteArray := l.foldl (fun r n => r.push (UInt8.ofNat n.toNat)) ByteArray.empty
theorem push_data (l : List Int) : ∀ r : ByteArray, (l.foldl (fun r n => r.push (UInt8.ofNat n.toNat)) r).data = r.data ++ (l.map (fun n => UInt8.ofNat n.toNat)).toArray := by
  induction l with
  | nil => intro r; simp
  | cons x l ih => intro r; rw [List.foldl_cons, ih]; simp [ByteArray.push]
theorem strOf_data (l : List Int) : (strOf l).data = (l.map (fun n => UInt8.ofNat n.toNat)).toArray := by
  unfold strOf; rw [push_data]; simp [ByteArray.empty, ByteArray.emptyWithCapacity]; rfl
theorem strOf_append (l m : List Int) : strOf (l ++ m) = strOf l ++ strOf m := by
  apply ByteArray.ext
  rw [ByteArray.data_append, strOf_data, strOf_data, strOf_data, List.map_append]
  simp
theorem strOf_size (l : List Int) : (strOf l).size = l.length := by
  have key : ∀ (l : List Int) (r : ByteArray), (l.foldl (fun r n => r.push (UInt8.ofNat n.toNat)) r).size = r.size + l.length := by
    intro l
    induction l with
    | nil => intro r; simp
    | cons x l ih => intro r; rw [List.foldl_cons, ih, ByteArray.size_push, List.length_cons]; omega
  unfold strOf
  rw [key]
  simp
theorem u8_inj {x y : Int} (hx : 0 ≤ x ∧ x < 256) (hy : 0 ≤ y ∧ y < 256) (h : UInt8.ofNat x.toNat = UInt8.ofNat y.toNat) : x = y := by
  have h2 := congrArg UInt8.toNat h
  simp only [UInt8.toNat_ofNat'] at h2
  omega
theorem strOf_inj {l m : List Int} (hl : OkB l) (hm : OkB m) (h : strOf l = strOf m) : l = m := by
  have h1 := congrArg ByteArray.data h
  rw [strOf_data, strOf_data] at h1
  have h2 : l.map (fun n => UInt8.ofNat n.toNat) = m.map (fun n => UInt8.ofNat n.toNat) := by simpa using h1
  clear h h1
  induction l generalizing m with
  | nil => cases m with
    | nil => rfl
    | cons y m => cases h2
  | cons x l ih => cases m with
    | nil => cases h2
    | cons y m =>
      simp only [List.map_cons, List.cons.injEq] at h2
      rw [u8_inj (hl x List.mem_cons_self) (hm y List.mem_cons_self) h2.1, ih (fun z hz => hl z (List.mem_cons_of_mem _ hz)) (fun z hz => hm z (List.mem_cons_of_mem _ hz)) h2.2]

/-- The walk's comparison of two strings. -/
theorem str_eq {l m : List Int} (hl : OkB l) (hm : OkB m) : ((strOf l).toList == (strOf m).toList) = decide (l = m) := by
  by_cases h : l = m
  · subst h
    rw [decide_eq_true rfl]
    exact beq_self_eq_true _
  · rw [decide_eq_false h]
    refine beq_eq_false_iff_ne.2 fun he => h (strOf_inj hl hm ?_)
    rw [ByteArray.toList_eq, ByteArray.toList_eq] at he
    exact ByteArray.ext (Array.toList_inj.1 he)

theorem conv_str {w : World} {a : Option Addr} {l : List Int} {cap : Nat} (h : BytesIn w a l cap) : (convert 40 9 (.slice a l.length cap)).run Try.prog w = .ok (.string (strOf l)) w := by
  rw [run_convert_bytes_string w 40 9 5 _ _ _ Try.underlying40 Try.underlying5 Try.underlying9]
  cases a with
  | none =>
    obtain rfl : l = [] := List.eq_nil_of_length_eq_zero (by have := h.nil rfl; have := h.len; omega)
    rfl
  | some ad =>
    refine run_bytesToString w ad l.length cap l ?_
    have hc := run_loadCells_list (P := Try.prog) w ad (l.map (Value.int .u8)) (fun j u hu => by
      have hj := (List.getElem?_eq_some_iff.1 hu).1
      rw [List.length_map] at hj
      obtain ⟨b, o, h1, hc⟩ := h.cells (by omega)
      obtain rfl := Option.some.inj h1
      rw [Addr.add_mid, hc j hj]
      rw [List.getElem?_map] at hu
      obtain ⟨x, hx, rfl⟩ := Option.map_eq_some_iff.1 hu
      rw [hx]; rfl)
    rwa [List.length_map] at hc
end Go.Proofs.Ytifdeeaoaekokaa
