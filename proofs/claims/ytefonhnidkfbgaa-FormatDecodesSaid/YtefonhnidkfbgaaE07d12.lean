/- Arrays of 32 bytes: they compare as their bytes do; they are loaded out of the middle of a block. Same of package delta and of its reference; slices.EqualFunc and All over commands. Same of package delta and of its reference, at deltas. Same of the reference, at deltas. -/
import Derived.Laws.StructEq
import Derived.Test.YtefonhnidkfbgaaE07d2
import Derived.Test.YtefonhnidkfbgaaE07d9
import Derived.Shelf.Abstract
import Derived.Test.YtefonhnidkfbgaaE07d11
import Derived.Test.YtefonhnidkfbgaaE07d3
namespace Go.Proofs.Ytefonhnidkfbgaa
open Go.RowKit
set_option linter.unusedVariables false
set_option linter.unusedSimpArgs false

theorem guard_arr32 : Try.prog.eqGuardType Try.prog.depth 24 = false := by kernel_rfl
theorem all_range (D E : List Int) (n : Nat) (hD : D.length = n) (hE : E.length = n) : ((List.range' 0 n 1).all fun i => D[i]?.getD 0 == E[i]?.getD 0) = decide (D = E) := by
  rw [Bool.eq_iff_iff, List.all_eq_true]
  simp only [decide_eq_true_eq, beq_iff_eq]
  constructor
  · intro h
    apply List.ext_getElem (by omega)
    intro i h1 h2
    have := h i (List.mem_range'_1.2 ⟨Nat.zero_le _, by omega⟩)
    rw [List.getElem?_eq_getElem h1, List.getElem?_eq_getElem h2] at this
    simpa using this
  · intro h i _
    rw [h]
theorem equal32 (D E : List Int) (hD : D.length = 32) (hE : E.length = 32) (w : World) : (Op.equalIn 10000 24 (.agg (byteA D)) (.agg (byteA E))).run Try.prog w = .ok (decide (D = E)) w := by
  have ht : Try.prog.underlying 24 = some (.array 32 5) := Try.underlying24
  have he : Try.prog.underlying 5 = some (.int .u8) := Try.underlying5
  have hsz : ∀ w, (sizeOf 5).run Try.prog w = .ok 1 w := fun w => by kernel_rfl
  have hag : ∀ w, (isAgg 5).run Try.prog w = .ok false w := fun w => by kernel_rfl
  rw [← all_range D E 32 hD hE]
  rw [show (10000 : Nat) = 9998 + 2 from rfl, Op.equalIn]
  simp only [Sem.run_bind, run_underlying ht, Result.andThen_ok, hsz, Std.Legacy.Range.forIn_eq_forIn_range', Std.Legacy.Range.size, Nat.sub_zero, Nat.add_sub_cancel, Nat.div_one]
  have hl : ∀ i ∈ List.range' 0 32 1, i < 32 := fun i hi => by simpa using (List.mem_range'_1.1 hi).2
  generalize List.range' 0 32 1 = l at hl ⊢
  induction l with
  | nil => simp
  | cons i l ih =>
    have hi : i < 32 := hl i (by simp)
    have px : (part 5 (byteA D) (i * 1)).run Try.prog w = .ok (.int .u8 (D[i]?.getD 0)) w := by
      rw [Nat.mul_one]
      unfold part
      simp only [Sem.run_bind, hag, Result.andThen_ok, byteA_get D (i := i) (by omega)]
      simp
    have py : (part 5 (byteA E) (i * 1)).run Try.prog w = .ok (.int .u8 (E[i]?.getD 0)) w := by
      rw [Nat.mul_one]
      unfold part
      simp only [Sem.run_bind, hag, Result.andThen_ok, byteA_get E (i := i) (by omega)]
      simp
    have pe : (Op.equalIn (9998 + 1) 5 (.int .u8 (D[i]?.getD 0)) (.int .u8 (E[i]?.getD 0))).run Try.prog w = .ok (D[i]?.getD 0 == E[i]?.getD 0) w := by
      rw [run_equalIn_int w 9998 5 .u8 .u8 _ _ he]
    cases hq : (D[i]?.getD 0 == E[i]?.getD 0) with
    | true =>
      rw [hq] at pe
      simp only [List.forIn_cons, Sem.run_bind, px, py, pe, Result.andThen_ok, Bool.not_true, Bool.false_eq_true, if_false, Sem.run_pure, List.all_cons, hq, Bool.true_and]
      exact ih fun j hj => hl j (by simp [hj])
    | false =>
      rw [hq] at pe
      simp only [List.forIn_cons, Sem.run_bind, px, py, pe, Result.andThen_ok, Bool.not_false, if_true, Sem.run_pure, List.all_cons, hq, Bool.false_and]

/-- A load whose value is known. -/
theorem wpList_load_val {P : Program} {ops : Array Oper} {rest : List Oper} {o : Oper} {a : Act} {w : World} {Q : Exit → Act → World → Prop} (hgd : Region.wanted o (yielded ops a.tmps) = true) (ty : TypeId) (x : Operand) (ho : o.op = .load ty x)
    (d0 : Option Tmp) (hdst : o.dst = d0) (v : Value) (hl : (Instr.loadAt ty (a.eval x)).run P w = .ok v w) (h : wpList P ops Q rest (a.put d0 v) w) : wpList P ops Q (o :: rest) a w := by
  subst hdst
  exact wpList_wanted hgd fun K hK => by
    unfold Oper.wp execOp
    simp only [ho, Sem.run_bind, hl, Result.andThen_ok, Sem.run_pure]
    exact hK _ _ h
theorem load_arr32 (l : List Int) (hl : l.length = 32) (w : World) (g o : Nat) (hc : ∀ i, i < 32 → w.cell? ⟨g, o + i, none⟩ = some (.int .u8 (l[i]?.getD 0))) : (Instr.loadAt 24 (.pointer (some ⟨g, o, none⟩))).run Try.prog w = .ok (.agg (byteA l)) w := by
  have h1 : (loadCells ⟨g, o, none⟩ 32).run Try.prog w = .ok (byteA l) w := by
    have := run_loadCells_list (P := Try.prog) w ⟨g, o, none⟩ (l.map (Value.int .u8)) (fun j v hv => by
      rw [Addr.add_mid]
      have hj := (List.getElem?_eq_some_iff.1 hv).1
      rw [List.length_map, hl] at hj
      rw [List.getElem?_map, List.getElem?_eq_getElem (by omega)] at hv
      simp only [Option.map_some, Option.some.injEq] at hv
      rw [hc j hj, List.getElem?_eq_getElem (by omega)]
      simp [hv])
    rw [List.length_map, hl] at this
    exact this
  have hagg : (isAgg 24).run Try.prog w = .ok true w := by kernel_rfl
  have hsz : (sizeOf 24).run Try.prog w = .ok 32 w := by kernel_rfl
  simp only [Instr.loadAt, Instr.sureAddr, Sem.run_bind, Sem.run_pure, Result.andThen_ok, loadVar, hagg, hsz]
  simp [h1]
end Go.Proofs.Ytefonhnidkfbgaa

namespace Go.Proofs.Ytefonhnidkfbgaa
open Go.RowKit Go.Shelf Go.Proofs.Ytefonhnidkfbgaa.Plain01
set_option linter.unusedVariables false
set_option linter.unusedSimpArgs false

/-- What two commands have in common when they are the same. -/
abbrev Cmd.core (c : Cmd) : Int × Int × Int × Int × List Int := (c.k, c.t, c.f, c.n, c.l)
def cores (cs : List Cmd) : List (Int × Int × Int × Int × List Int) := cs.map Cmd.core
theorem sameB_core (a b : Cmd) : sameB a.k a.t a.f a.n a.l b.k b.t b.f b.n b.l = decide (a.core = b.core) := by
  unfold sameB
  rw [Bool.eq_iff_iff]
  simp [Cmd.core]
theorem cores_get {cs : List Cmd} {i : Nat} {c : Cmd} (h : cs[i]? = some c) : (cores cs)[i]? = some c.core := by simp [cores, h]

theorem rcsame_any (a b : Cmd) (w : World) (ha : CmdOK w a) (hb : CmdOK w b) : Calls Try.prog 36 #[cmdW a, cmdW b] w (Gives (.bool (decide (a.core = b.core))) w) := by
  rw [← sameB_core]
  exact rsame_any a.k a.t a.f a.n b.k b.t b.f b.n a.l b.l a.a b.a a.cap b.cap w ha.b hb.b ha.o hb.o

theorem cores_eq_of {cs ds : List Cmd} (hl : cs.length = ds.length) (h : ∀ (i : Nat) (a b : Cmd), i < cs.length → cs[i]? = some a → ds[i]? = some b → a.core = b.core) : cores cs = cores ds := by
  apply List.ext_getElem?
  intro i
  by_cases hi : i < cs.length
  · obtain ⟨a, ha⟩ : ∃ c, cs[i]? = some c := ⟨_, List.getElem?_eq_getElem hi⟩
    obtain ⟨b, hb⟩ : ∃ c, ds[i]? = some c := ⟨_, List.getElem?_eq_getElem (by omega)⟩
    rw [cores_get ha, cores_get hb, h i a b hi ha hb]
  · rw [List.getElem?_eq_none (by simp [cores]; omega), List.getElem?_eq_none (by simp [cores]; omega)]
theorem cores_len {cs ds : List Cmd} (h : cores cs = cores ds) : cs.length = ds.length := by
  have := congrArg List.length h
  simpa [cores] using this

set_option maxRecDepth 100000 in
set_option maxHeartbeats 4000000 in
theorem all_any (ca da : Option Addr) (cs ds : List Cmd) (ccap dcap : Nat) (w : World) (h1 : CmdsIn w ca cs ccap) (h2 : CmdsIn w da ds dcap) :
    Calls Try.prog 22 #[.slice ca cs.length ccap, .slice da ds.length dcap] w (Gives (.bool (decide (cores cs = cores ds))) w) := by
  have hpost : Hid (∀ (r : Bool) (s : HeldW w []), r = decide (cores cs = cores ds) → Gives (.bool (decide (cores cs = cores ds))) w (.returned (.bool r)) s.w) := Lib.hid fun r s hr => by
    rw [← hr]; exact ⟨rfl, s.below⟩
  have HC := Lib.hid h1
  have HE := Lib.hid h2
  obtain ⟨L, hLe⟩ : ∃ L, L = cs.length := ⟨_, rfl⟩
  obtain ⟨M, hMe⟩ : ∃ M, M = ds.length := ⟨_, rfl⟩
  have HL := Lib.hid hLe
  have HM := Lib.hid hMe
  have hLcap : L ≤ ccap := by rw [hLe]; exact h1.len
  have hccap := h1.capb
  have hMcap : M ≤ dcap := by rw [hMe]; exact h2.len
  have hdcap := h2.capb
  rw [← hLe, ← hMe]
  generalize Gives (.bool (decide (cores cs = cores ds))) w = POST at hpost ⊢
  clear h1 h2 hLe hMe
  by_cases hlm : L = M
  · subst hlm
    go_enter Try.func22, Try.ntmps22
    go_wp2
    go_loopw [5] (fun v wr => ∃ k : Nat, k ≤ L ∧ v = .int .i64 k ∧ Hid (∀ (j : Nat) (a b : Cmd), j < k → cs[j]? = some a → ds[j]? = some b → a.core = b.core) ∧ ∃ s : HeldW w [], wr = s.w) (fun v _ => L - (intOf v).toNat)
    case atStart => exact ⟨0, by omega, rfl, Lib.hid (fun j a b hj => by omega), HeldW.start w, rfl⟩
    case round =>
      obtain ⟨k, hk, rfl, hf, s, rfl⟩ := hrel
      by_cases hlt : k < L
      · obtain ⟨c, hc⟩ : ∃ c, cs[k]? = some c := ⟨_, List.getElem?_eq_getElem (by rw [← HL.out]; exact hlt)⟩
        obtain ⟨d, hd⟩ : ∃ c, ds[k]? = some c := ⟨_, List.getElem?_eq_getElem (by rw [← HM.out]; exact hlt)⟩
        obtain ⟨b, oo, rfl, _⟩ := HC.out.at hc
        obtain ⟨b', oo', rfl, _⟩ := HE.out.at hd
        have yi : ∀ s : HeldW w [], s.w.cell? ⟨b, oo + k * 5, none⟩ = some (.int .i64 c.k) ∧ s.w.cell? ⟨b, oo + k * 5 + 1, none⟩ = some (.int .i64 c.t) ∧ s.w.cell? ⟨b, oo + k * 5 + 2, none⟩ = some (.int .i64 c.f) ∧ s.w.cell? ⟨b, oo + k * 5 + 3, none⟩ = some (.int .i64 c.n) ∧ s.w.cell? ⟨b, oo + k * 5 + 4, none⟩ = some (.slice c.a c.l.length c.cap) := fun s => by
          obtain ⟨b1, o1, e, h⟩ := (HC.out.W s).at hc
          simp only [Option.some.injEq, Addr.mk.injEq] at e
          obtain ⟨rfl, rfl, _⟩ := e
          exact h
        have yj : ∀ s : HeldW w [], s.w.cell? ⟨b', oo' + k * 5, none⟩ = some (.int .i64 d.k) ∧ s.w.cell? ⟨b', oo' + k * 5 + 1, none⟩ = some (.int .i64 d.t) ∧ s.w.cell? ⟨b', oo' + k * 5 + 2, none⟩ = some (.int .i64 d.f) ∧ s.w.cell? ⟨b', oo' + k * 5 + 3, none⟩ = some (.int .i64 d.n) ∧ s.w.cell? ⟨b', oo' + k * 5 + 4, none⟩ = some (.slice d.a d.l.length d.cap) := fun s => by
          obtain ⟨b1, o1, e, h⟩ := (HE.out.W s).at hd
          simp only [Option.some.injEq, Addr.mk.injEq] at e
          obtain ⟨rfl, rfl, _⟩ := e
          exact h
        have x0 := fun s => (yi s).1
        have x1 := fun s => (yi s).2.1
        have x2 := fun s => (yi s).2.2.1
        have x3 := fun s => (yi s).2.2.2.1
        have x4 := fun s => (yi s).2.2.2.2
        have z0 := fun s => (yj s).1
        have z1 := fun s => (yj s).2.1
        have z2 := fun s => (yj s).2.2.1
        have z3 := fun s => (yj s).2.2.2.1
        have z4 := fun s => (yj s).2.2.2.2
        have hcc := fun s : HeldW w [] => rcsame_any c d s.w ((HC.out.ok c (List.mem_of_getElem? hc)).below s.below) ((HE.out.ok d (List.mem_of_getElem? hd)).below s.below)
        have HCD := Lib.hid hc
        have HDD := Lib.hid hd
        clear hc hd yi yj
        by_cases hh : c.core = d.core
        · have hstep : Hid (∀ (j : Nat) (a b : Cmd), j < k + 1 → cs[j]? = some a → ds[j]? = some b → a.core = b.core) := Lib.hid fun j a b hj ha hb => by
            by_cases e : j = k
            · subst e; rw [HCD.out] at ha; rw [HDD.out] at hb; cases ha; cases hb; exact hh
            · exact hf.out j a b (by omega) ha hb
          simp only [decide_eq_true hh] at hcc
          clear hh
          go_wp2_with fail
          refine wp_region_class w [] (by kernel_rfl) (by kernel_rfl) s.below (by simp) (fun hne => ?_)
          repeat (go_big_quiet_step ((go_at_call 36; exact HeldW.call (hcc _))))
          refine wpQuiet_nil ?_
          rintro _ ⟨s2, rfl⟩
          clear hne x0 x1 x2 x3 x4 z0 z1 z2 z3 z4 hcc
          go_wp2
          go_roundw
          case rel => exact ⟨k + 1, by omega, by go_num, hstep, s2, rfl⟩
          case measure => simp [intOf]; omega
        · have hT : Hid (false = decide (cores cs = cores ds)) := Lib.hid (by
            symm
            rw [decide_eq_false_iff_not]
            intro he
            have h1 := cores_get HCD.out
            rw [he, cores_get HDD.out] at h1
            exact hh (Option.some.inj h1).symm)
          simp only [decide_eq_false hh] at hcc
          clear hh
          go_wp2_with fail
          refine wp_region_class w [] (by kernel_rfl) (by kernel_rfl) s.below (by simp) (fun hne => ?_)
          repeat (go_big_quiet_step ((go_at_call 36; exact HeldW.call (hcc _))))
          refine wpQuiet_nil ?_
          rintro _ ⟨s2, rfl⟩
          clear hne x0 x1 x2 x3 x4 z0 z1 z2 z3 z4 hcc
          go_wp2
          exact hpost.out _ s2 hT.out
      · obtain rfl : k = L := by omega
        have hT : Hid (true = decide (cores cs = cores ds)) := Lib.hid (by
          symm
          rw [decide_eq_true_eq]
          exact cores_eq_of (by rw [← HL.out, ← HM.out]) (fun i a b hi ha hb => hf.out i a b (by rw [HL.out]; exact hi) ha hb))
        go_wp2
        exact hpost.out _ s hT.out
  · have hT : Hid (false = decide (cores cs = cores ds)) := Lib.hid (by
      symm
      rw [decide_eq_false_iff_not]
      intro he
      exact hlm (by rw [HL.out, HM.out]; exact cores_len he))
    have e1 : ((L : Int) != (M : Int)) = true := by simp; omega
    clear hlm
    go_enter Try.func22, Try.ntmps22
    go_wp2
    exact hpost.out _ (HeldW.start w) hT.out
end Go.Proofs.Ytefonhnidkfbgaa

namespace Go.Proofs.Ytefonhnidkfbgaa
open Go.RowKit Go.Shelf Go.Proofs.Ytefonhnidkfbgaa.Plain01
set_option linter.unusedVariables false
set_option linter.unusedSimpArgs false

def sameD (o n : Int) (x y : List Int) (cs : List Cmd) (o' n' : Int) (x' y' : List Int) (ds : List Cmd) : Bool := decide (o = o' ∧ n = n' ∧ x = x' ∧ y = y' ∧ cores cs = cores ds)
theorem DeltaOf.x {D : Array Value} {o n : Int} {x y : List Int} {s : Value} (h : DeltaOf D o n x y s) (i : Nat) (hi : i < 32) : D[2 + i]? = some (.int .u8 (x[i]?.getD 0)) := by
  rw [h.eq]
  simp only [deltaA, List.getElem?_toArray]
  unfold deltaL
  rw [show 2 + i = i + 1 + 1 by omega, List.getElem?_cons_succ, List.getElem?_cons_succ, List.getElem?_append_left (by simp [h.xl]; omega), List.getElem?_map, List.getElem?_eq_getElem (by rw [h.xl]; omega)]
  rfl
theorem DeltaOf.y {D : Array Value} {o n : Int} {x y : List Int} {s : Value} (h : DeltaOf D o n x y s) (i : Nat) (hi : i < 32) : D[34 + i]? = some (.int .u8 (y[i]?.getD 0)) := by
  rw [h.eq]
  simp only [deltaA, List.getElem?_toArray]
  unfold deltaL
  rw [show 34 + i = (32 + i) + 1 + 1 by omega, List.getElem?_cons_succ, List.getElem?_cons_succ, List.getElem?_append_right (by simp [h.xl]), List.length_map, h.xl, Nat.add_sub_cancel_left, List.getElem?_append_left (by simp [h.yl]; omega), List.getElem?_map, List.getElem?_eq_getElem (by rw [h.yl]; omega)]
  rfl
theorem load_x {D : Array Value} {o n : Int} {x y : List Int} {s : Value} (h : DeltaOf D o n x y s) {w : World} {b : Nat} (hb : w.heap[b]? = some (deltaO D)) : (Instr.loadAt 24 (.pointer (some ⟨b, 2, none⟩))).run Try.prog w = .ok (.agg (byteA x)) w :=
  load_arr32 x h.xl w b 2 fun i hi => (cell_of hb _).trans (h.x i hi)
theorem load_y {D : Array Value} {o n : Int} {x y : List Int} {s : Value} (h : DeltaOf D o n x y s) {w : World} {b : Nat} (hb : w.heap[b]? = some (deltaO D)) : (Instr.loadAt 24 (.pointer (some ⟨b, 34, none⟩))).run Try.prog w = .ok (.agg (byteA y)) w :=
  load_arr32 y h.yl w b 34 fun i hi => (cell_of hb _).trans (h.y i hi)

end Go.Proofs.Ytefonhnidkfbgaa

namespace Go.Proofs.Ytefonhnidkfbgaa
open Go.RowKit Go.Shelf Go.Proofs.Ytefonhnidkfbgaa.Plain01
set_option linter.unusedVariables false
set_option linter.unusedSimpArgs false

set_option maxRecDepth 100000 in
set_option maxHeartbeats 8000000 in
theorem rdsame_any (D E : Array Value) (o n o' n' : Int) (x y x' y' : List Int) (ca da : Option Addr) (cs ds : List Cmd) (ccap dcap : Nat) (hD : DeltaOf D o n x y (.slice ca cs.length ccap)) (hE : DeltaOf E o' n' x' y' (.slice da ds.length dcap)) (w : World) (h1 : CmdsIn w ca cs ccap) (h2 : CmdsIn w da ds dcap) :
    Calls Try.prog 7 #[.agg D, .agg E] w (Gives (.bool (sameD o n x y cs o' n' x' y' ds)) w) := by
  obtain ⟨S, hS⟩ := start2 w (deltaO D) (deltaO E)
  have hq := all_any ca da cs ds ccap dcap S.w (h1.W S) (h2.W S)
  obtain ⟨d0, d1, d2⟩ := delta_held hD S w.heap.size (by simp)
  obtain ⟨e0, e1, e2⟩ := delta_held hE S (w.heap.size + 1) (by simp)
  have lx := load_x hD (S.blocks (w.heap.size, deltaO D) (by simp))
  have ly := load_y hD (S.blocks (w.heap.size, deltaO D) (by simp))
  have mx := load_x hE (S.blocks (w.heap.size + 1, deltaO E) (by simp))
  have my := load_y hE (S.blocks (w.heap.size + 1, deltaO E) (by simp))
  have qx := equal32 x x' hD.xl hE.xl
  have qy := equal32 y y' hD.yl hE.yl
  have hg := guard_arr32
  have HS := Lib.hid hS
  have hb := HS
  generalize cs.length = L at *
  generalize ds.length = M at *
  rw [← hS] at d0 d1 d2 e0 e1 e2 lx ly mx my
  have HB : Hid (Below w.heap.size w ((w.alloc (deltaO D)).alloc (deltaO E))) := Lib.hid (below2 _ _ _)
  unfold sameD
  clear hD hE h1 h2 hS hb
  by_cases c1 : o = o'
  · by_cases c2 : n = n'
    · by_cases c3 : x = x'
      · by_cases c4 : y = y'
        · have hr : decide (o = o' ∧ n = n' ∧ x = x' ∧ y = y' ∧ cores cs = cores ds) = decide (cores cs = cores ds) := by simp [c1, c2, c3, c4]
          rw [hr]
          simp only [decide_eq_true c3] at qx
          simp only [decide_eq_true c4] at qy
          generalize decide (cores cs = cores ds) = r at hq ⊢
          clear hr c3 c4
          subst c1 c2
          generalize byteA x = X at *
          generalize byteA x' = X' at *
          generalize byteA y = Y at *
          generalize byteA y' = Y' at *
          go_enter Try.func7, Try.ntmps7
          go_wp2_with (first
            | (refine wpList_load_val rfl 24 (.tmp 18) rfl (some 19) rfl (.agg X) lx ?_)
            | (refine wpList_load_val rfl 24 (.tmp 20) rfl (some 21) rfl (.agg X') mx ?_)
            | (refine wpList_load_val rfl 24 (.tmp 25) rfl (some 26) rfl (.agg Y) ly ?_)
            | (refine wpList_load_val rfl 24 (.tmp 27) rfl (some 28) rfl (.agg Y') my ?_))
          rw [HS.out]
          clear d0 d1 d2 e0 e1 e2 lx ly mx my
          refine (HeldW.call hq).mono ?_
          rintro e _ ⟨rfl, s2, rfl⟩
          go_wp2
          go_ret
          exact ⟨by first | rfl | simp, s2.below⟩
        · have hr : decide (o = o' ∧ n = n' ∧ x = x' ∧ y = y' ∧ cores cs = cores ds) = false := by simp [c4]
          rw [hr]
          simp only [decide_eq_true c3] at qx
          simp only [decide_eq_false c4] at qy
          clear hr c3 c4 hq HS
          subst c1 c2
          generalize byteA x = X at *
          generalize byteA x' = X' at *
          generalize byteA y = Y at *
          generalize byteA y' = Y' at *
          go_enter Try.func7, Try.ntmps7
          go_wp2_with (first
            | (refine wpList_load_val rfl 24 (.tmp 18) rfl (some 19) rfl (.agg X) lx ?_)
            | (refine wpList_load_val rfl 24 (.tmp 20) rfl (some 21) rfl (.agg X') mx ?_)
            | (refine wpList_load_val rfl 24 (.tmp 25) rfl (some 26) rfl (.agg Y) ly ?_)
            | (refine wpList_load_val rfl 24 (.tmp 27) rfl (some 28) rfl (.agg Y') my ?_))
          go_ret
          exact ⟨rfl, HB.out⟩
      · have hr : decide (o = o' ∧ n = n' ∧ x = x' ∧ y = y' ∧ cores cs = cores ds) = false := by simp [c3]
        rw [hr]
        simp only [decide_eq_false c3] at qx
        clear hr c3 hq HS ly my qy
        subst c1 c2
        generalize byteA x = X at *
        generalize byteA x' = X' at *
        go_enter Try.func7, Try.ntmps7
        go_wp2_with (first
          | (refine wpList_load_val rfl 24 (.tmp 18) rfl (some 19) rfl (.agg X) lx ?_)
          | (refine wpList_load_val rfl 24 (.tmp 20) rfl (some 21) rfl (.agg X') mx ?_))
        go_ret
        exact ⟨rfl, HB.out⟩
    · have hr : decide (o = o' ∧ n = n' ∧ x = x' ∧ y = y' ∧ cores cs = cores ds) = false := by simp [c2]
      rw [hr]
      have g2 : (n == n') = false := by simpa using c2
      clear hr hq HS lx ly mx my qx qy c2
      subst c1
      go_enter Try.func7, Try.ntmps7
      go_wp2
      go_ret
      exact ⟨rfl, HB.out⟩
  · have hr : decide (o = o' ∧ n = n' ∧ x = x' ∧ y = y' ∧ cores cs = cores ds) = false := by simp [c1]
    rw [hr]
    have g1 : (o == o') = false := by simpa using c1
    clear hr hq HS lx ly mx my qx qy c1
    go_enter Try.func7, Try.ntmps7
    go_wp2
    go_ret
    exact ⟨rfl, HB.out⟩
end Go.Proofs.Ytefonhnidkfbgaa
