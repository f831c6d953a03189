/- Two equal digests compare as equal; what the methods of a nil hash return; bytes appended to a new slice. -/
import Derived.Laws.StructEq
import Derived.Laws.AppendOwnNone
import Derived.Test.YtnpcocjjmajifaaDoor02Alive
namespace Go.Proofs.YtnpcocjjmajifaaDoor
open Go.RowKit
set_option linter.unusedVariables false

theorem equal_same (D : List Int) (hD : D.length = 32) (w : World) : (Op.equalIn 10000 24 (.agg (byteA D)) (.agg (byteA D))).run Tryd.prog w = .ok true w := by
  have ht : Tryd.prog.underlying 24 = some (.array 32 5) := Tryd.underlying24
  have he : Tryd.prog.underlying 5 = some (.int .u8) := Tryd.underlying5
  have hsz : ∀ w, (sizeOf 5).run Tryd.prog w = .ok 1 w := fun w => by kernel_rfl
  have hag : ∀ w, (isAgg 5).run Tryd.prog w = .ok false w := fun w => by kernel_rfl
  rw [show (10000 : Nat) = 9998 + 2 from rfl, Op.equalIn]
  simp only [Sem.run_bind, run_underlying ht, Result.andThen_ok, hsz, Std.Legacy.Range.forIn_eq_forIn_range', Std.Legacy.Range.size, Nat.sub_zero, Nat.add_sub_cancel, Nat.div_one]
  have hl : ∀ i ∈ List.range' 0 32 1, i < 32 := fun i hi => by simpa using (List.mem_range'_1.1 hi).2
  generalize List.range' 0 32 1 = l at hl ⊢
  induction l with
  | nil => simp
  | cons i l ih =>
    have hi : i < 32 := hl i (by simp)
    have px : (part 5 (byteA D) (i * 1)).run Tryd.prog w = .ok (.int .u8 (D[i]?.getD 0)) w := by
      rw [Nat.mul_one]
      unfold part
      simp only [Sem.run_bind, hag, Result.andThen_ok, byteA_get D (i := i) (by omega)]
      simp
    have pe : (Op.equalIn (9998 + 1) 5 (.int .u8 (D[i]?.getD 0)) (.int .u8 (D[i]?.getD 0))).run Tryd.prog w = .ok true w := by
      rw [run_equalIn_int w 9998 5 .u8 .u8 _ _ he]
      simp
    simp only [List.forIn_cons, Sem.run_bind, px, pe, Result.andThen_ok, Bool.not_true, Bool.false_eq_true, if_false, Sem.run_pure]
    exact ih fun j hj => hl j (by simp [hj])

theorem guard_arr : Tryd.prog.eqGuardType Tryd.prog.depth 24 = false := by kernel_rfl

theorem write_nil (pa : Option Addr) (n cap : Nat) (w : World) : Calls Tryd.prog 13 #[.pointer none, .slice pa n cap] w fun e w' => e = .returned (.int .i64 0) ∧ w' = w := by
  go_enter Tryd.func13, Tryd.ntmps13
  go_wp2
  go_ret
  exact ⟨rfl, rfl⟩
theorem len_nil (w : World) : Calls Tryd.prog 15 #[.pointer none] w fun e w' => e = .returned (.int .i64 0) ∧ w' = w := by
  go_enter Tryd.func15, Tryd.ntmps15
  go_wp2
  go_ret
  exact ⟨rfl, rfl⟩
theorem clone_nil (w : World) : Calls Tryd.prog 16 #[.pointer none] w fun e w' => e = .returned (.pointer none) ∧ w' = w := by
  go_enter Tryd.func16, Tryd.ntmps16
  go_wp2
  go_ret
  exact ⟨rfl, rfl⟩
/-- A new digest, its cells under one name. -/
def zeroD : List Int := List.replicate 32 0
theorem zeroD_eq : byteA zeroD = zero32 := rfl
theorem zero_arr (w : World) : (zeroValue 24).run Tryd.prog w = .ok (.agg (byteA zeroD)) w := by kernel_rfl
set_option maxRecDepth 100000 in
theorem sum_nil (w : World) : Calls Tryd.prog 14 #[.pointer none] w (Gives (.agg (byteA zeroD)) w) := by
  have hsz : (byteA zeroD).size = 32 := rfl
  have hinf : (Tryd.prog.info? 24).map (·.size) = some (byteA zeroD).size := by rw [hsz]; kernel_rfl
  have hn : (w.alloc (.cells zero32 24)).heap[w.heap.size]? = some (.cells (byteA zeroD) 24 (0, 0)) := heap_new w (.cells (byteA zeroD) 24 (0, 0)) rfl
  have hone := byteA_one zeroD
  clear hsz
  go_enter Tryd.func14, Tryd.ntmps14
  go_wp2_with (first
    | (refine wpList_buildTo rfl 24 _ rfl (some 6) rfl (byteA zeroD) (by kernel_rfl) ?_)
    | (refine wpList_store_rowTo rfl 24 (.tmp 2) (.tmp 6) rfl rfl w.heap.size (byteA zeroD) rfl rfl 24 (byteA zeroD) hn hinf rfl hone ?_))
  refine bodyPost_ret (v := .agg (byteA zeroD)) ?_ rfl ⟨rfl, below_setRow ((Below.refl _ w).alloc (Nat.le_refl _) _) (Nat.le_refl _) _⟩
  exact results_cell_row Tryd.results14 _ _ w.heap.size 24 _ (0, 0) _ rfl (setRow_heap _ _ _ _ _ _ hn) Tryd.underlying24 rfl hinf

/-- A slice of bytes that came in. -/
structure BytesIn (w : World) (a : Option Addr) (l : List Int) (cap : Nat) : Prop where
  len : l.length ≤ cap
  capb : cap ≤ 9223372036854775807
  cells : 0 < l.length → ∃ b o, a = some ⟨b, o, none⟩ ∧ ∀ i, i < l.length → w.cell? ⟨b, o + i, none⟩ = some (.int .u8 (l[i]?.getD 0))
  nil : a = none → cap = 0
theorem BytesIn.src {w : World} {a : Option Addr} {l : List Int} {cap : Nat} (h : BytesIn w a l cap) {g : Nat} (hg : w.heap.size ≤ g) : Src w g a l := fun hp => by
  obtain ⟨b, o, rfl, hc⟩ := h.cells hp
  have := World.block_lt_of_cell? w _ (hc 0 hp)
  exact ⟨b, o, rfl, by simp only at this; omega, hc⟩

/-- Bytes that lie somewhere are appended to a slice of the call's own. -/
theorem wpList_append_src {P : Program} {t e : TypeId} (E : Elem P t e) {w0 : World} {v : Value} {xs : List Value} {ops : Array Oper} {rest : List Oper} {o : Oper} {a : Act} {Q : Exit → Act → World → Prop} (s : OwnW w0 e v xs) (news : List Value)
    (sO xO : Operand) (hgd : o.guard = none) (ho : o.op = .call { callee := .builtin .append, args := #[sO, xO], argTypes := #[t, t] }) (hs : a.eval sO = v) (sp : Option Addr) (m c : Nat) (hm : m = news.length) (hx : a.eval xO = .slice sp m c)
    (hnil : sp = none → m = 0 ∧ c = 0) (hsrc : ∀ ad, sp = some ad → ∀ j u, news[j]? = some u → s.w.cell? (ad.add j) = some u)
    (h1 : ∀ u ∈ news, u.oneCell' = true) (hlen : xs.length + news.length ≤ 1099511627776)
    (H : ∀ v' (s' : OwnW w0 e v' (xs ++ news)), wpList P ops Q rest (a.put o.dst v') s'.w) :
    wpList P ops Q (o :: rest) a s.w := by
  subst hm
  cases sp with
  | none =>
    obtain ⟨h0, rfl⟩ := hnil rfl
    obtain rfl := List.eq_nil_of_length_eq_zero h0
    refine wpList_append_own_none hgd sO xO t ho w0.heap.size e E.i 1 E.ht E.hi v xs.length xs hs s.own (by simpa using hx) ?_
    have hH : ∀ (ys : List Value) (hy : xs ++ [] = ys) (s2 : OwnW w0 e v ys), wpList P ops Q rest (a.put o.dst v) s2.w := fun ys hy s2 => by subst hy; exact H v s2
    exact hH xs (by simp) s
  | some ad =>
    refine wpList_append_own _ hgd sO xO t ho w0.heap.size e E.i E.z 1 E.bytes E.ht E.hi E.hz E.hsize E.hby E.hzs (by omega) v xs.length xs hs s.own ad news.length c news hx (by omega) (hsrc ad rfl) h1 (by unfold maxLen; omega) ?_ s.below.size ?_
    · have h2 : (xs.length + news.length) * E.bytes ≤ 1099511627776 * 8 := Nat.mul_le_mul hlen E.hb8
      omega
    · intro v' w' hown hgr _
      refine H v' ⟨w', s.below.grown hgr s.below.size (fun k hk => (s.own.lt k hk).1), ?_⟩
      rw [List.length_append]
      exact hown
end Go.Proofs.YtnpcocjjmajifaaDoor
