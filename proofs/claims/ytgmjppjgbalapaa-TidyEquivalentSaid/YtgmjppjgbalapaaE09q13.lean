import Derived.Laws.StructEq
import Derived.Test.YtgmjppjgbalapaaE09q2
import Derived.Test.YtgmjppjgbalapaaE09q11
import Derived.Shelf.Abstract
import Derived.Test.YtgmjppjgbalapaaE09q12
import Derived.Test.YtgmjppjgbalapaaE09q4
import Derived.Laws.Append
import Derived.Lib.AppendZerosOnto
import Derived.Lib.Walk
import Derived.Lib.SliceRun
import Derived.LoopTactic
import Derived.Deep.AppendSrc
import Derived.Test.YtgmjppjgbalapaaE09q9
import Derived.Deep.RegionWith
import Derived.Deep.Onto
/- Arrays of 32 bytes: they compare as their bytes do; they are loaded out of the middle of a block. Same of package delta and of its reference; slices.EqualFunc and All over commands. Same of package delta and of its reference, at deltas. Same of the reference, at deltas. -/
namespace Go.Proofs.Ytgmjppjgbalapaa
open Go.RowKit
set_option linter.unusedVariables false
set_option linter.unusedSimpArgs false

theorem guard_arr32 : Try.prog.eqGuardType Try.prog.depth 32 = false := by kernel_rfl
theorem all_range (D E : List Int) (n : Nat) (hD : D.length = n) (hE : E.length = n) : ((List.range' 0 n 1).all fun i => D[i]?.getD 0 == E[i]?.getD 0) = decide (D = E) := by
  rw [Bool.eq_iff_iff, List.all_eq_true]
  simp only [decide_eq_true_eq, beq_iff_eq]
  constructor
  · intro h
    apply List.ext_getElem (by omega)
    intro i h1 h2
    have := h i (List.mem_range'_1.2 ⟨Nat.zero_le _, by omega⟩)
    rw [List.getElem?_eq_getElem h1, List.getElem?_eq_getElem h2] at this
    simpa using this
  · intro h i _
    rw [h]
theorem equal32 (D E : List Int) (hD : D.length = 32) (hE : E.length = 32) (w : World) : (Op.equalIn 10000 32 (.agg (byteA D)) (.agg (byteA E))).run Try.prog w = .ok (decide (D = E)) w := by
  have ht : Try.prog.underlying 32 = some (.array 32 5) := Try.underlying32
  have he : Try.prog.underlying 5 = some (.int .u8) := Try.underlying5
  have hsz : ∀ w, (sizeOf 5).run Try.prog w = .ok 1 w := fun w => by kernel_rfl
  have hag : ∀ w, (isAgg 5).run Try.prog w = .ok false w := fun w => by kernel_rfl
  rw [← all_range D E 32 hD hE]
  rw [show (10000 : Nat) = 9998 + 2 from rfl, Op.equalIn]
  simp only [Sem.run_bind, run_underlying ht, Result.andThen_ok, hsz, Std.Legacy.Range.forIn_eq_forIn_range', Std.Legacy.Range.size, Nat.sub_zero, Nat.add_sub_cancel, Nat.div_one]
  have hl : ∀ i ∈ List.range' 0 32 1, i < 32 := fun i hi => by simpa using (List.mem_range'_1.1 hi).2
  generalize List.range' 0 32 1 = l at hl ⊢
  induction l with
  | nil => simp
  | cons i l ih =>
    have hi : i < 32 := hl i (by simp)
    have px : (part 5 (byteA D) (i * 1)).run Try.prog w = .ok (.int .u8 (D[i]?.getD 0)) w := by
      rw [Nat.mul_one]
      unfold part
      simp only [Sem.run_bind, hag, Result.andThen_ok, byteA_get D (i := i) (by omega)]
      simp
    have py : (part 5 (byteA E) (i * 1)).run Try.prog w = .ok (.int .u8 (E[i]?.getD 0)) w := by
      rw [Nat.mul_one]
      unfold part
      simp only [Sem.run_bind, hag, Result.andThen_ok, byteA_get E (i := i) (by omega)]
      simp
    have pe : (Op.equalIn (9998 + 1) 5 (.int .u8 (D[i]?.getD 0)) (.int .u8 (E[i]?.getD 0))).run Try.prog w = .ok (D[i]?.getD 0 == E[i]?.getD 0) w := by
      rw [run_equalIn_int w 9998 5 .u8 .u8 _ _ he]
    cases hq : (D[i]?.getD 0 == E[i]?.getD 0) with
    | true =>
      rw [hq] at pe
      simp only [List.forIn_cons, Sem.run_bind, px, py, pe, Result.andThen_ok, Bool.not_true, Bool.false_eq_true, if_false, Sem.run_pure, List.all_cons, hq, Bool.true_and]
      exact ih fun j hj => hl j (by simp [hj])
    | false =>
      rw [hq] at pe
      simp only [List.forIn_cons, Sem.run_bind, px, py, pe, Result.andThen_ok, Bool.not_false, if_true, Sem.run_pure, List.all_cons, hq, Bool.false_and]

/-- A load whose value is known. -/
theorem wpList_load_val {P : Program} {ops : Array Oper} {rest : List Oper} {o : Oper} {a : Act} {w : World} {Q : Exit → Act → World → Prop} (hgd : Region.wanted o (yielded ops a.tmps) = true) (ty : TypeId) (x : Operand) (ho : o.op = .load ty x)
    (d0 : Option Tmp) (hdst : o.dst = d0) (v : Value) (hl : (Instr.loadAt ty (a.eval x)).run P w = .ok v w) (h : wpList P ops Q rest (a.put d0 v) w) : wpList P ops Q (o :: rest) a w := by
  subst hdst
  exact wpList_wanted hgd fun K hK => by
    unfold Oper.wp execOp
    simp only [ho, Sem.run_bind, hl, Result.andThen_ok, Sem.run_pure]
    exact hK _ _ h
theorem load_arr32 (l : List Int) (hl : l.length = 32) (w : World) (g o : Nat) (hc : ∀ i, i < 32 → w.cell? ⟨g, o + i, none⟩ = some (.int .u8 (l[i]?.getD 0))) : (Instr.loadAt 32 (.pointer (some ⟨g, o, none⟩))).run Try.prog w = .ok (.agg (byteA l)) w := by
  have h1 : (loadCells ⟨g, o, none⟩ 32).run Try.prog w = .ok (byteA l) w := by
    have := run_loadCells_list (P := Try.prog) w ⟨g, o, none⟩ (l.map (Value.int .u8)) (fun j v hv => by
      rw [Addr.add_mid]
      have hj := (List.getElem?_eq_some_iff.1 hv).1
      rw [List.length_map, hl] at hj
      rw [List.getElem?_map, List.getElem?_eq_getElem (by omega)] at hv
      simp only [Option.map_some, Option.some.injEq] at hv
      rw [hc j hj, List.getElem?_eq_getElem (by omega)]
      simp [hv])
    rw [List.length_map, hl] at this
    exact this
  have hagg : (isAgg 32).run Try.prog w = .ok true w := by kernel_rfl
  have hsz : (sizeOf 32).run Try.prog w = .ok 32 w := by kernel_rfl
  simp only [Instr.loadAt, Instr.sureAddr, Sem.run_bind, Sem.run_pure, Result.andThen_ok, loadVar, hagg, hsz]
  simp [h1]
end Go.Proofs.Ytgmjppjgbalapaa

namespace Go.Proofs.Ytgmjppjgbalapaa
open Go.RowKit Go.Shelf Go.Proofs.Ytgmjppjgbalapaa.Plain01
set_option linter.unusedVariables false
set_option linter.unusedSimpArgs false

/-- What two commands have in common when they are the same. -/
abbrev Cmd.core (c : Cmd) : Int × Int × Int × Int × List Int := (c.k, c.t, c.f, c.n, c.l)
def cores (cs : List Cmd) : List (Int × Int × Int × Int × List Int) := cs.map Cmd.core
theorem sameB_core (a b : Cmd) : sameB a.k a.t a.f a.n a.l b.k b.t b.f b.n b.l = decide (a.core = b.core) := by
  unfold sameB
  rw [Bool.eq_iff_iff]
  simp [Cmd.core]
theorem cores_get {cs : List Cmd} {i : Nat} {c : Cmd} (h : cs[i]? = some c) : (cores cs)[i]? = some c.core := by simp [cores, h]

theorem rcsame_any (a b : Cmd) (w : World) (ha : CmdOK w a) (hb : CmdOK w b) : Calls Try.prog 32 #[cmdW a, cmdW b] w (Gives (.bool (decide (a.core = b.core))) w) := by
  rw [← sameB_core]
  exact rsame_any a.k a.t a.f a.n b.k b.t b.f b.n a.l b.l a.a b.a a.cap b.cap w ha.b hb.b ha.o hb.o

theorem cores_eq_of {cs ds : List Cmd} (hl : cs.length = ds.length) (h : ∀ (i : Nat) (a b : Cmd), i < cs.length → cs[i]? = some a → ds[i]? = some b → a.core = b.core) : cores cs = cores ds := by
  apply List.ext_getElem?
  intro i
  by_cases hi : i < cs.length
  · obtain ⟨a, ha⟩ : ∃ c, cs[i]? = some c := ⟨_, List.getElem?_eq_getElem hi⟩
    obtain ⟨b, hb⟩ : ∃ c, ds[i]? = some c := ⟨_, List.getElem?_eq_getElem (by omega)⟩
    rw [cores_get ha, cores_get hb, h i a b hi ha hb]
  · rw [List.getElem?_eq_none (by simp [cores]; omega), List.getElem?_eq_none (by simp [cores]; omega)]
theorem cores_len {cs ds : List Cmd} (h : cores cs = cores ds) : cs.length = ds.length := by
  have := congrArg List.length h
  simpa [cores] using this

set_option maxRecDepth 100000 in
set_option maxHeartbeats 4000000 in
theorem all_any (ca da : Option Addr) (cs ds : List Cmd) (ccap dcap : Nat) (w : World) (h1 : CmdsIn w ca cs ccap) (h2 : CmdsIn w da ds dcap) :
    Calls Try.prog 11 #[.slice ca cs.length ccap, .slice da ds.length dcap] w (Gives (.bool (decide (cores cs = cores ds))) w) := by
  have hpost : Hid (∀ (r : Bool) (s : HeldW w []), r = decide (cores cs = cores ds) → Gives (.bool (decide (cores cs = cores ds))) w (.returned (.bool r)) s.w) := Lib.hid fun r s hr => by
    rw [← hr]; exact ⟨rfl, s.below⟩
  have HC := Lib.hid h1
  have HE := Lib.hid h2
  obtain ⟨L, hLe⟩ : ∃ L, L = cs.length := ⟨_, rfl⟩
  obtain ⟨M, hMe⟩ : ∃ M, M = ds.length := ⟨_, rfl⟩
  have HL := Lib.hid hLe
  have HM := Lib.hid hMe
  have hLcap : L ≤ ccap := by rw [hLe]; exact h1.len
  have hccap := h1.capb
  have hMcap : M ≤ dcap := by rw [hMe]; exact h2.len
  have hdcap := h2.capb
  rw [← hLe, ← hMe]
  generalize Gives (.bool (decide (cores cs = cores ds))) w = POST at hpost ⊢
  clear h1 h2 hLe hMe
  by_cases hlm : L = M
  · subst hlm
    go_enter Try.func11, Try.ntmps11
    go_wp2
    go_loopw [5] (fun v wr => ∃ k : Nat, k ≤ L ∧ v = .int .i64 k ∧ Hid (∀ (j : Nat) (a b : Cmd), j < k → cs[j]? = some a → ds[j]? = some b → a.core = b.core) ∧ ∃ s : HeldW w [], wr = s.w) (fun v _ => L - (intOf v).toNat)
    case atStart => exact ⟨0, by omega, rfl, Lib.hid (fun j a b hj => by omega), HeldW.start w, rfl⟩
    case round =>
      obtain ⟨k, hk, rfl, hf, s, rfl⟩ := hrel
      by_cases hlt : k < L
      · obtain ⟨c, hc⟩ : ∃ c, cs[k]? = some c := ⟨_, List.getElem?_eq_getElem (by rw [← HL.out]; exact hlt)⟩
        obtain ⟨d, hd⟩ : ∃ c, ds[k]? = some c := ⟨_, List.getElem?_eq_getElem (by rw [← HM.out]; exact hlt)⟩
        obtain ⟨b, oo, rfl, _⟩ := HC.out.at hc
        obtain ⟨b', oo', rfl, _⟩ := HE.out.at hd
        have yi : ∀ s : HeldW w [], s.w.cell? ⟨b, oo + k * 5, none⟩ = some (.int .i64 c.k) ∧ s.w.cell? ⟨b, oo + k * 5 + 1, none⟩ = some (.int .i64 c.t) ∧ s.w.cell? ⟨b, oo + k * 5 + 2, none⟩ = some (.int .i64 c.f) ∧ s.w.cell? ⟨b, oo + k * 5 + 3, none⟩ = some (.int .i64 c.n) ∧ s.w.cell? ⟨b, oo + k * 5 + 4, none⟩ = some (.slice c.a c.l.length c.cap) := fun s => by
          obtain ⟨b1, o1, e, h⟩ := (HC.out.W s).at hc
          simp only [Option.some.injEq, Addr.mk.injEq] at e
          obtain ⟨rfl, rfl, _⟩ := e
          exact h
        have yj : ∀ s : HeldW w [], s.w.cell? ⟨b', oo' + k * 5, none⟩ = some (.int .i64 d.k) ∧ s.w.cell? ⟨b', oo' + k * 5 + 1, none⟩ = some (.int .i64 d.t) ∧ s.w.cell? ⟨b', oo' + k * 5 + 2, none⟩ = some (.int .i64 d.f) ∧ s.w.cell? ⟨b', oo' + k * 5 + 3, none⟩ = some (.int .i64 d.n) ∧ s.w.cell? ⟨b', oo' + k * 5 + 4, none⟩ = some (.slice d.a d.l.length d.cap) := fun s => by
          obtain ⟨b1, o1, e, h⟩ := (HE.out.W s).at hd
          simp only [Option.some.injEq, Addr.mk.injEq] at e
          obtain ⟨rfl, rfl, _⟩ := e
          exact h
        have x0 := fun s => (yi s).1
        have x1 := fun s => (yi s).2.1
        have x2 := fun s => (yi s).2.2.1
        have x3 := fun s => (yi s).2.2.2.1
        have x4 := fun s => (yi s).2.2.2.2
        have z0 := fun s => (yj s).1
        have z1 := fun s => (yj s).2.1
        have z2 := fun s => (yj s).2.2.1
        have z3 := fun s => (yj s).2.2.2.1
        have z4 := fun s => (yj s).2.2.2.2
        have hcc := fun s : HeldW w [] => rcsame_any c d s.w ((HC.out.ok c (List.mem_of_getElem? hc)).below s.below) ((HE.out.ok d (List.mem_of_getElem? hd)).below s.below)
        have HCD := Lib.hid hc
        have HDD := Lib.hid hd
        clear hc hd yi yj
        by_cases hh : c.core = d.core
        · have hstep : Hid (∀ (j : Nat) (a b : Cmd), j < k + 1 → cs[j]? = some a → ds[j]? = some b → a.core = b.core) := Lib.hid fun j a b hj ha hb => by
            by_cases e : j = k
            · subst e; rw [HCD.out] at ha; rw [HDD.out] at hb; cases ha; cases hb; exact hh
            · exact hf.out j a b (by omega) ha hb
          simp only [decide_eq_true hh] at hcc
          clear hh
          go_wp2_with fail
          refine wp_region_class w [] (by kernel_rfl) (by kernel_rfl) s.below (by simp) (fun hne => ?_)
          repeat (go_big_quiet_step ((go_at_call 32; exact HeldW.call (hcc _))))
          refine wpQuiet_nil ?_
          rintro _ ⟨s2, rfl⟩
          clear hne x0 x1 x2 x3 x4 z0 z1 z2 z3 z4 hcc
          go_wp2
          go_roundw
          case rel => exact ⟨k + 1, by omega, by go_num, hstep, s2, rfl⟩
          case measure => simp [intOf]; omega
        · have hT : Hid (false = decide (cores cs = cores ds)) := Lib.hid (by
            symm
            rw [decide_eq_false_iff_not]
            intro he
            have h1 := cores_get HCD.out
            rw [he, cores_get HDD.out] at h1
            exact hh (Option.some.inj h1).symm)
          simp only [decide_eq_false hh] at hcc
          clear hh
          go_wp2_with fail
          refine wp_region_class w [] (by kernel_rfl) (by kernel_rfl) s.below (by simp) (fun hne => ?_)
          repeat (go_big_quiet_step ((go_at_call 32; exact HeldW.call (hcc _))))
          refine wpQuiet_nil ?_
          rintro _ ⟨s2, rfl⟩
          clear hne x0 x1 x2 x3 x4 z0 z1 z2 z3 z4 hcc
          go_wp2
          exact hpost.out _ s2 hT.out
      · obtain rfl : k = L := by omega
        have hT : Hid (true = decide (cores cs = cores ds)) := Lib.hid (by
          symm
          rw [decide_eq_true_eq]
          exact cores_eq_of (by rw [← HL.out, ← HM.out]) (fun i a b hi ha hb => hf.out i a b (by rw [HL.out]; exact hi) ha hb))
        go_wp2
        exact hpost.out _ s hT.out
  · have hT : Hid (false = decide (cores cs = cores ds)) := Lib.hid (by
      symm
      rw [decide_eq_false_iff_not]
      intro he
      exact hlm (by rw [HL.out, HM.out]; exact cores_len he))
    have e1 : ((L : Int) != (M : Int)) = true := by simp; omega
    clear hlm
    go_enter Try.func11, Try.ntmps11
    go_wp2
    exact hpost.out _ (HeldW.start w) hT.out
end Go.Proofs.Ytgmjppjgbalapaa

namespace Go.Proofs.Ytgmjppjgbalapaa
open Go.RowKit Go.Shelf Go.Proofs.Ytgmjppjgbalapaa.Plain01
set_option linter.unusedVariables false
set_option linter.unusedSimpArgs false

def sameD (o n : Int) (x y : List Int) (cs : List Cmd) (o' n' : Int) (x' y' : List Int) (ds : List Cmd) : Bool := decide (o = o' ∧ n = n' ∧ x = x' ∧ y = y' ∧ cores cs = cores ds)
theorem DeltaOf.x {D : Array Value} {o n : Int} {x y : List Int} {s : Value} (h : DeltaOf D o n x y s) (i : Nat) (hi : i < 32) : D[2 + i]? = some (.int .u8 (x[i]?.getD 0)) := by
  rw [h.eq]
  simp only [deltaA, List.getElem?_toArray]
  unfold deltaL
  rw [show 2 + i = i + 1 + 1 by omega, List.getElem?_cons_succ, List.getElem?_cons_succ, List.getElem?_append_left (by simp [h.xl]; omega), List.getElem?_map, List.getElem?_eq_getElem (by rw [h.xl]; omega)]
  rfl
theorem DeltaOf.y {D : Array Value} {o n : Int} {x y : List Int} {s : Value} (h : DeltaOf D o n x y s) (i : Nat) (hi : i < 32) : D[34 + i]? = some (.int .u8 (y[i]?.getD 0)) := by
  rw [h.eq]
  simp only [deltaA, List.getElem?_toArray]
  unfold deltaL
  rw [show 34 + i = (32 + i) + 1 + 1 by omega, List.getElem?_cons_succ, List.getElem?_cons_succ, List.getElem?_append_right (by simp [h.xl]), List.length_map, h.xl, Nat.add_sub_cancel_left, List.getElem?_append_left (by simp [h.yl]; omega), List.getElem?_map, List.getElem?_eq_getElem (by rw [h.yl]; omega)]
  rfl
theorem load_x {D : Array Value} {o n : Int} {x y : List Int} {s : Value} (h : DeltaOf D o n x y s) {w : World} {b : Nat} (hb : w.heap[b]? = some (deltaO D)) : (Instr.loadAt 32 (.pointer (some ⟨b, 2, none⟩))).run Try.prog w = .ok (.agg (byteA x)) w :=
  load_arr32 x h.xl w b 2 fun i hi => (cell_of hb _).trans (h.x i hi)
theorem load_y {D : Array Value} {o n : Int} {x y : List Int} {s : Value} (h : DeltaOf D o n x y s) {w : World} {b : Nat} (hb : w.heap[b]? = some (deltaO D)) : (Instr.loadAt 32 (.pointer (some ⟨b, 34, none⟩))).run Try.prog w = .ok (.agg (byteA y)) w :=
  load_arr32 y h.yl w b 34 fun i hi => (cell_of hb _).trans (h.y i hi)

end Go.Proofs.Ytgmjppjgbalapaa

namespace Go.Proofs.Ytgmjppjgbalapaa
open Go.RowKit Go.Shelf Go.Proofs.Ytgmjppjgbalapaa.Plain01
set_option linter.unusedVariables false
set_option linter.unusedSimpArgs false

set_option maxRecDepth 100000 in
set_option maxHeartbeats 8000000 in
theorem rdsame_any (D E : Array Value) (o n o' n' : Int) (x y x' y' : List Int) (ca da : Option Addr) (cs ds : List Cmd) (ccap dcap : Nat) (hD : DeltaOf D o n x y (.slice ca cs.length ccap)) (hE : DeltaOf E o' n' x' y' (.slice da ds.length dcap)) (w : World) (h1 : CmdsIn w ca cs ccap) (h2 : CmdsIn w da ds dcap) :
    Calls Try.prog 15 #[.agg D, .agg E] w (Gives (.bool (sameD o n x y cs o' n' x' y' ds)) w) := by
  obtain ⟨S, hS⟩ := start2 w (deltaO D) (deltaO E)
  have hq := all_any ca da cs ds ccap dcap S.w (h1.W S) (h2.W S)
  obtain ⟨d0, d1, d2⟩ := delta_held hD S w.heap.size (by simp)
  obtain ⟨e0, e1, e2⟩ := delta_held hE S (w.heap.size + 1) (by simp)
  have lx := load_x hD (S.blocks (w.heap.size, deltaO D) (by simp))
  have ly := load_y hD (S.blocks (w.heap.size, deltaO D) (by simp))
  have mx := load_x hE (S.blocks (w.heap.size + 1, deltaO E) (by simp))
  have my := load_y hE (S.blocks (w.heap.size + 1, deltaO E) (by simp))
  have qx := equal32 x x' hD.xl hE.xl
  have qy := equal32 y y' hD.yl hE.yl
  have hg := guard_arr32
  have HS := Lib.hid hS
  have hb := HS
  generalize cs.length = L at *
  generalize ds.length = M at *
  rw [← hS] at d0 d1 d2 e0 e1 e2 lx ly mx my
  have HB : Hid (Below w.heap.size w ((w.alloc (deltaO D)).alloc (deltaO E))) := Lib.hid (below2 _ _ _)
  unfold sameD
  clear hD hE h1 h2 hS hb
  by_cases c1 : o = o'
  · by_cases c2 : n = n'
    · by_cases c3 : x = x'
      · by_cases c4 : y = y'
        · have hr : decide (o = o' ∧ n = n' ∧ x = x' ∧ y = y' ∧ cores cs = cores ds) = decide (cores cs = cores ds) := by simp [c1, c2, c3, c4]
          rw [hr]
          simp only [decide_eq_true c3] at qx
          simp only [decide_eq_true c4] at qy
          generalize decide (cores cs = cores ds) = r at hq ⊢
          clear hr c3 c4
          subst c1 c2
          generalize byteA x = X at *
          generalize byteA x' = X' at *
          generalize byteA y = Y at *
          generalize byteA y' = Y' at *
          go_enter Try.func15, Try.ntmps15
          go_wp2_with (first
            | (refine wpList_load_val rfl 32 (.tmp 18) rfl (some 19) rfl (.agg X) lx ?_)
            | (refine wpList_load_val rfl 32 (.tmp 20) rfl (some 21) rfl (.agg X') mx ?_)
            | (refine wpList_load_val rfl 32 (.tmp 25) rfl (some 26) rfl (.agg Y) ly ?_)
            | (refine wpList_load_val rfl 32 (.tmp 27) rfl (some 28) rfl (.agg Y') my ?_))
          rw [HS.out]
          clear d0 d1 d2 e0 e1 e2 lx ly mx my
          refine (HeldW.call hq).mono ?_
          rintro e _ ⟨rfl, s2, rfl⟩
          go_wp2
          go_ret
          exact ⟨by first | rfl | simp, s2.below⟩
        · have hr : decide (o = o' ∧ n = n' ∧ x = x' ∧ y = y' ∧ cores cs = cores ds) = false := by simp [c4]
          rw [hr]
          simp only [decide_eq_true c3] at qx
          simp only [decide_eq_false c4] at qy
          clear hr c3 c4 hq HS
          subst c1 c2
          generalize byteA x = X at *
          generalize byteA x' = X' at *
          generalize byteA y = Y at *
          generalize byteA y' = Y' at *
          go_enter Try.func15, Try.ntmps15
          go_wp2_with (first
            | (refine wpList_load_val rfl 32 (.tmp 18) rfl (some 19) rfl (.agg X) lx ?_)
            | (refine wpList_load_val rfl 32 (.tmp 20) rfl (some 21) rfl (.agg X') mx ?_)
            | (refine wpList_load_val rfl 32 (.tmp 25) rfl (some 26) rfl (.agg Y) ly ?_)
            | (refine wpList_load_val rfl 32 (.tmp 27) rfl (some 28) rfl (.agg Y') my ?_))
          go_ret
          exact ⟨rfl, HB.out⟩
      · have hr : decide (o = o' ∧ n = n' ∧ x = x' ∧ y = y' ∧ cores cs = cores ds) = false := by simp [c3]
        rw [hr]
        simp only [decide_eq_false c3] at qx
        clear hr c3 hq HS ly my qy
        subst c1 c2
        generalize byteA x = X at *
        generalize byteA x' = X' at *
        go_enter Try.func15, Try.ntmps15
        go_wp2_with (first
          | (refine wpList_load_val rfl 32 (.tmp 18) rfl (some 19) rfl (.agg X) lx ?_)
          | (refine wpList_load_val rfl 32 (.tmp 20) rfl (some 21) rfl (.agg X') mx ?_))
        go_ret
        exact ⟨rfl, HB.out⟩
    · have hr : decide (o = o' ∧ n = n' ∧ x = x' ∧ y = y' ∧ cores cs = cores ds) = false := by simp [c2]
      rw [hr]
      have g2 : (n == n') = false := by simpa using c2
      clear hr hq HS lx ly mx my qx qy c2
      subst c1
      go_enter Try.func15, Try.ntmps15
      go_wp2
      go_ret
      exact ⟨rfl, HB.out⟩
  · have hr : decide (o = o' ∧ n = n' ∧ x = x' ∧ y = y' ∧ cores cs = cores ds) = false := by simp [c1]
    rw [hr]
    have g1 : (o == o') = false := by simpa using c1
    clear hr hq HS lx ly mx my qx qy c1
    go_enter Try.func15, Try.ntmps15
    go_wp2
    go_ret
    exact ⟨rfl, HB.out⟩
end Go.Proofs.Ytgmjppjgbalapaa

/- Pieces of slices that came in: s[:n], s[n:]: the walk uses these equations where it does not know that n is within the capacity. -/
namespace Go.Proofs.Ytgmjppjgbalapaa
open Go.RowKit
set_option linter.unusedVariables false

theorem size_bytes (w : World) : (sizeOf (Try.prog.elem 102)).run Try.prog w = .ok 1 w := by kernel_rfl
theorem size_u8 (w : World) : (sizeOf (Try.prog.elem 24)).run Try.prog w = .ok 1 w := by kernel_rfl
/-- What came in as a slice of slices of bytes. -/
structure PartsOf (w : World) (pa : Option Addr) (ls : List (List Int)) (cap : Nat) : Prop where
  parts : PartsIn w pa ls
  le : ls.length ≤ cap
  capb : cap ≤ 9223372036854775807
  nil : pa = none → cap = 0

theorem PartsIn.below {w w' : World} {pa : Option Addr} {ls : List (List Int)} (h : PartsIn w pa ls) (hb : Below w.heap.size w w') : PartsIn w' pa ls := ⟨h.len, fun hp => by
  obtain ⟨b, o, rfl, hc⟩ := h.cells hp
  refine ⟨b, o, rfl, fun i hi => ?_⟩
  obtain ⟨a, cap, h1, h2⟩ := hc i hi
  exact ⟨a, cap, (hb.cell (p := ⟨b, o + i, none⟩) (World.block_lt_of_cell? _ _ h1)).trans h1, h2.below hb⟩⟩
theorem PartsOf.below {w w' : World} {pa : Option Addr} {ls : List (List Int)} {cap : Nat} (h : PartsOf w pa ls cap) (hb : Below w.heap.size w w') : PartsOf w' pa ls cap := ⟨h.parts.below hb, h.le, h.capb, h.nil⟩

theorem partOf_drop (ls : List (List Int)) (n i : Nat) : partOf (ls.drop n) i = partOf ls (n + i) := by unfold partOf; rw [List.getElem?_drop]
theorem partOf_take (ls : List (List Int)) {n i : Nat} (h : i < n) : partOf (ls.take n) i = partOf ls i := by unfold partOf; rw [List.getElem?_take, if_pos h]

theorem cutp_l {w : World} {pa : Option Addr} {ls : List (List Int)} {cap : Nat} (h : PartsOf w pa ls cap) (n : Nat) (hn : n ≤ ls.length) :
    ∃ A, (∀ W, (Instr.slice 102 (.slice pa ls.length cap) (some (.int .i64 (n : Int))) none none).run Try.prog W = .ok (.slice A (ls.length - n) (cap - n)) W) ∧ PartsIn w A (ls.drop n) := by
  refine ⟨if cap = n then pa else pa.map (·.add (n * 1)), fun W => ?_, by rw [List.length_drop]; have := h.parts.len; omega, fun hp => ?_⟩
  · rw [run_slice_l (P := Try.prog) W 102 pa ls.length cap (by kernel_rfl) .i64 (n : Int) (by omega) (by omega), size_bytes]
    simp only [Result.andThen_ok, sliced, Int.toNat_natCast]
  · rw [List.length_drop] at hp
    obtain ⟨b, o, rfl, hc⟩ := h.parts.cells (by omega)
    have := h.le
    rw [if_neg (by omega)]
    refine ⟨b, o + n, by simp [Addr.add_mid], fun i hi => ?_⟩
    rw [List.length_drop] at hi
    obtain ⟨a, c, h1, h2⟩ := hc (n + i) (by omega)
    rw [partOf_drop]
    exact ⟨a, c, by rw [Nat.add_assoc]; exact h1, h2⟩
theorem cutp_h {w : World} {pa : Option Addr} {ls : List (List Int)} {cap : Nat} (h : PartsOf w pa ls cap) (n : Nat) (hn : n ≤ ls.length) :
    ∃ A, (∀ W, (Instr.slice 102 (.slice pa ls.length cap) none (some (.int .i64 (n : Int))) none).run Try.prog W = .ok (.slice A n cap) W) ∧ PartsIn w A (ls.take n) := by
  refine ⟨if cap = 0 then pa else pa.map (·.add (0 * 1)), fun W => ?_, by rw [List.length_take]; have := h.parts.len; omega, fun hp => ?_⟩
  · rw [run_slice_h (P := Try.prog) W 102 pa ls.length cap (by kernel_rfl) .i64 (n : Int) (by omega) (by have := h.le; omega), size_bytes]
    simp only [Result.andThen_ok, sliced, Int.toNat_natCast, Nat.sub_zero]
  · rw [List.length_take] at hp
    obtain ⟨b, o, rfl, hc⟩ := h.parts.cells (by omega)
    have := h.le
    rw [if_neg (by omega)]
    refine ⟨b, o, by simp [Addr.add_mid], fun i hi => ?_⟩
    rw [List.length_take] at hi
    obtain ⟨a, c, h1, h2⟩ := hc i (by omega)
    rw [partOf_take ls (by omega)]
    exact ⟨a, c, h1, h2⟩
theorem cutb_h {w : World} {a : Option Addr} {l : List Int} {cap : Nat} (h : BytesIn w a l cap) (n : Nat) (hn : n ≤ l.length) :
    ∃ A, (∀ W, (Instr.slice 24 (.slice a l.length cap) none (some (.int .i64 (n : Int))) none).run Try.prog W = .ok (.slice A n cap) W) ∧ BytesIn w A (l.take n) cap := by
  refine ⟨if cap = 0 then a else a.map (·.add (0 * 1)), fun W => ?_, by rw [List.length_take]; have := h.len; omega, h.capb, fun hp => ?_, fun h0 => ?_⟩
  · rw [run_slice_h (P := Try.prog) W 24 a l.length cap (by kernel_rfl) .i64 (n : Int) (by omega) (by have := h.len; omega), size_u8]
    simp only [Result.andThen_ok, sliced, Int.toNat_natCast, Nat.sub_zero]
  · rw [List.length_take] at hp
    obtain ⟨b, o, rfl, hc⟩ := h.cells (by omega)
    have := h.len
    rw [if_neg (by omega)]
    refine ⟨b, o, by simp [Addr.add_mid], fun i hi => ?_⟩
    rw [List.length_take] at hi
    rw [hc i (by omega), List.getElem?_take, if_pos (by omega)]
  · by_cases hc : cap = 0
    · exact hc
    · rw [if_neg hc] at h0
      cases a with
      | none => exact h.nil rfl
      | some ad => cases h0
end Go.Proofs.Ytgmjppjgbalapaa

/- slices.Grow of no bytes, slices.Concat of slices of bytes: a new slice of its own. -/
namespace Go.Proofs.Ytgmjppjgbalapaa
open Go.RowKit
set_option linter.unusedVariables false

set_option maxRecDepth 100000 in
set_option maxHeartbeats 4000000 in
theorem grow8_any (n : Nat) (hn : n ≤ 140737488355328) (w : World) : Calls Try.prog 87 #[.slice none 0 0, .int .i64 n] w fun e w' => ∃ v, e = .returned v ∧ ∃ s : OwnW w 5 v [], w' = s.w := by
  by_cases h0 : n = 0
  · subst h0
    go_enter Try.func87, Try.ntmps87
    go_wp2
    go_ret
    exact ⟨_, rfl, ⟨w, Below.refl _ _, World.ownsRow_nil w w.heap.size 5 1⟩, rfl⟩
  · obtain ⟨E, hEb⟩ := elem8
    have hold : (Builtin.firstCells E.i.size 0 (.slice none 0 0)).run Try.prog w.drew = .ok ([] : List Value).toArray w.drew := run_firstCells_none w.drew E.i.size 0 0 0
    have hfit : Builtin.nextslicecap (0 + n) 0 * E.i.bytes ≤ 281474976710656 := growslice_fits (by omega) (by rw [E.hby, hEb]; omega)
    have hrun := fun ty => Lib.run_append_grow_zeros (P := Try.prog) w 24 3 ty 5 E.i E.z .i64 .i64 E.ht Try.underlying3 E.hi E.hz none 0 0 [] hold n (by omega) (by rw [E.hsize]; omega) (by omega) (by omega) (by rw [E.hby, hEb]; omega) hfit
    rw [Nat.zero_add] at hrun
    have hG := grownCap_ge w n 0 5
    have hG2 := grownCap_le_maxLen w n 0 5 (by unfold maxLen; omega)
    generalize grownCap w n 0 5 = G at hrun hG hG2
    obtain ⟨cs, hcs⟩ : ∃ cs : Array Value, cs = ([] : List Value).toArray ++ Builtin.zeroCells E.z.cells n ++ Builtin.zeroCells E.z.cells (G - n) := ⟨_, rfl⟩
    have hsz : cs.size = G * 1 := by
      rw [hcs, Array.size_append, Array.size_append, size_zeroCells, size_zeroCells, E.hzs]
      simp
      omega
    rw [← hcs] at hrun
    have hG3 : G ≤ 9223372036854775807 := by unfold maxLen at hG2; omega
    have HSZ := Lib.hid hsz
    have HG2 := Lib.hid hG2
    have hd : decide ((0 : Int) < (n : Int)) = true := by simp; omega
    clear hold hfit hcs hsz hG2
    go_enter Try.func87, Try.ntmps87
    go_wp2_with (refine Lib.wpList_append_run _ rfl _ _ _ _ rfl _ _ rfl rfl _ _ (hrun _) ?_)
    go_ret
    exact ⟨_, rfl, ⟨w.drew.alloc (.cells cs 5), ((Below.refl _ w).drew).alloc (Nat.le_refl _) _, World.ownsRow_made (base := w.heap.size) (e := 5) (size := 1) w.drew cs G (Nat.le_refl _) HG2.out HSZ.out⟩, rfl⟩

/-- How long some parts are, all in all. -/
theorem sum_take (ls : List (List Int)) {k : Nat} (hk : k < ls.length) : (ls.take (k + 1)).flatten.length = (ls.take k).flatten.length + (partOf ls k).length := by rw [take_flat ls hk, List.length_append]

set_option maxRecDepth 100000 in
set_option maxHeartbeats 4000000 in
theorem concat8_any (ls : List (List Int)) (pa : Option Addr) (pcap : Nat) (w : World) (hp : PartsIn w pa ls) (hm : ls.flatten.length ≤ 140737488351232) :
    Calls Try.prog 81 #[.slice pa ls.length pcap] w (MakesR 5 (ls.flatten.map (Value.int .u8)) w) := by
  obtain ⟨E, hEb⟩ := elem8
  have HEB := Lib.hid hEb
  have HP := Lib.hid hp
  have HF := Lib.hid (show ∀ k, (ls.take k).flatten.length ≤ 140737488351232 from fun k => Nat.le_trans (take_flat_le ls k) hm)
  have hle := hp.len
  have HM := Lib.hid hm
  clear hp hm hEb
  go_enter Try.func81, Try.ntmps81
  go_wp2
  go_loop [3, 5, 11] (fun z _ i => ∃ k : Nat, k ≤ ls.length ∧ i = .int .i64 k ∧ z = .int .i64 ((ls.take k).flatten.length : Nat)) (fun _ _ i => ls.length - (intOf i).toNat)
  case atStart => exact ⟨0, by omega, rfl, rfl⟩
  case round =>
    obtain ⟨k, hk, rfl, rfl⟩ := hrel
    by_cases hlt : k < ls.length
    · obtain ⟨b, o, rfl, hc⟩ := HP.out.cells (by omega)
      obtain ⟨a, cap, hcell, hbytes⟩ := hc k hlt
      have hsum := sum_take ls hlt
      have hb1 := HF.out (k + 1)
      clear hc hbytes
      generalize hz : (ls.take (k + 1)).flatten.length = z1 at hsum hb1
      generalize (ls.take k).flatten.length = z0 at hsum
      generalize (partOf ls k).length = m at hsum hcell
      have HZ := Lib.hid (show (ls.take (k + 1)).flatten.length = z0 + m from hz.trans hsum)
      clear hz
      have hd : decide (((z0 : Int) + (m : Int)) < 0) = false := by simp; omega
      go_wp2
      go_round
      case rel => exact ⟨k + 1, by omega, by go_num, by rw [HZ.out]; go_num⟩
      case measure => simp [intOf]; omega
    · obtain rfl : k = ls.length := by omega
      rw [List.take_length]
      have hN := HM.out
      generalize hz : ls.flatten.length = N at hN
      have HZ := Lib.hid hz
      clear hz
      have hg := grow8_any N (by omega) w
      go_wp2_with fail
      refine hg.mono ?_
      rintro e _ ⟨v0, rfl, s0, rfl⟩
      clear hg
      go_wp2
      go_loopw [6, 8, 27] (fun v _ i wr => ∃ k : Nat, k ≤ ls.length ∧ i = .int .i64 k ∧ ∃ s : OwnW w 5 v ((ls.take k).flatten.map (Value.int .u8)), wr = s.w) (fun _ _ i _ => ls.length - (intOf i).toNat)
      case atStart => exact ⟨0, by omega, rfl, s0, rfl⟩
      case round =>
        clear s0
        obtain ⟨k, hk, rfl, s, rfl⟩ := hrel
        by_cases hlt : k < ls.length
        · obtain ⟨b, o, rfl, hc⟩ := HP.out.cells (by omega)
          obtain ⟨a, cap, hcell0, hbytes⟩ := hc k hlt
          have hbk := World.block_lt_of_cell? w _ hcell0
          have hcell : s.w.cell? ⟨b, o + k, none⟩ = some (.slice a (partOf ls k).length cap) := by rw [s.below.cell (p := ⟨b, o + k, none⟩) hbk, hcell0]
          have hb2 := hbytes.below s.below
          have hsum := sum_take ls hlt
          have hb1 := HF.out (k + 1)
          have HN := Lib.hid (hb2.nil2 (n := (partOf ls k).length) rfl)
          have HSRC := Lib.hid hb2.news
          have HML := Lib.hid (show (partOf ls k).length = ((partOf ls k).map (Value.int .u8)).length from (List.length_map _).symm)
          have HLN := Lib.hid (show ((((ls.take k).flatten.map (Value.int .u8)).length + ((partOf ls k).map (Value.int .u8)).length) * E.bytes ≤ 140737488355328 ∧ ((ls.take k).flatten.map (Value.int .u8)).length + ((partOf ls k).map (Value.int .u8)).length ≤ maxLen) from by
            rw [List.length_map, List.length_map, HEB.out]; unfold maxLen; omega)
          have HX := Lib.hid (show (ls.take k).flatten.map (Value.int .u8) ++ (partOf ls k).map (Value.int .u8) = (ls.take (k + 1)).flatten.map (Value.int .u8) by rw [← List.map_append, ← take_flat ls hlt])
          clear hc hcell0 hbk hb2 hbytes hsum hb1
          generalize partOf ls k = l at hcell HN HSRC HML HLN HX
          go_wp2_with (refine wpList_append_srcB E s (l.map (Value.int .u8)) (.tmp 31) (.tmp 32) rfl rfl rfl a l.length cap HML.out rfl HN.out HSRC.out (one_bytes _) HLN.out.1 HLN.out.2 ?_; intro v' s2)
          go_roundw
          case rel => exact ⟨k + 1, by omega, by go_num, s2.as HX.out, rfl⟩
          case measure => simp [intOf]; omega
        · obtain rfl : k = ls.length := by omega
          have HT := Lib.hid (show (ls.take ls.length).flatten.map (Value.int .u8) = ls.flatten.map (Value.int .u8) by rw [List.take_length])
          go_wp2
          go_ret
          exact ⟨_, rfl, s.as HT.out, rfl⟩
end Go.Proofs.Ytgmjppjgbalapaa

/- Bytes are appended to an empty slice without room: a new slice of its own. -/
namespace Go.Proofs.Ytgmjppjgbalapaa
open Go.RowKit
set_option linter.unusedVariables false

/-- An empty slice without room. -/
def IsE : Value → World → Prop := fun v _ => ∃ p, v = .slice p 0 0
theorem stable_E : Stable (fun W W' => Below W.heap.size W W') IsE := fun v w w' h _ => h

theorem run_append_fresh {W : World} {A : Option Addr} {Q : List Int} {c m : Nat} (hm : Q.length = m) (hb : BytesIn W A Q c) (h0 : 0 < m) (hmx : m ≤ 140737488355328) {base : Nat} (hbase : base ≤ W.heap.size) (p : Option Addr) (ty : TypeId) :
    ∃ v' W', (Builtin.append_ #[24, 24] ty #[.slice p 0 0, .slice A m c]).run Try.prog W = .ok v' W' ∧ IsOwn base (fun v => v) Q v' W' ∧ Below W.heap.size W W' := by
  obtain ⟨E, hE⟩ := elem8
  subst hm
  obtain ⟨b, o, rfl, hc⟩ := hb.cells h0
  have hold : (Builtin.firstCells E.i.size 0 (.slice p 0 0)).run Try.prog W.drew = .ok ([] : List Value).toArray W.drew := by
    cases p with
    | none => exact run_firstCells_none W.drew E.i.size 0 0 0
    | some q => exact run_firstCells_some W.drew E.i.size 0 q 0 0 [] (by simp) (fun j v hj => by simp at hj)
  have hsrc := _root_.Go.Src.ofSlice (P := Try.prog) W (size := E.i.size) (tx := 24) Try.underlying24 ⟨b, o, none⟩ Q.length c (Q.map (Value.int .u8)) (by rw [List.length_map, E.hsize, Nat.mul_one]) (hb.news _ rfl) (one_bytes _)
  have hrun := run_append_grow_src (P := Try.prog) W 24 24 ty 5 E.i E.z E.ht E.hi E.hz p 0 0 [] hold _ Q.length _ hsrc (by omega) (by omega) (growslice_fits (by omega) (by rw [E.hby, hE]; omega))
  rw [Nat.zero_add] at hrun
  have hG := grownCap_ge W Q.length 0 5
  have hG2 := grownCap_le_maxLen W Q.length 0 5 (by unfold maxLen; omega)
  generalize grownCap W Q.length 0 5 = G at hrun hG hG2
  refine ⟨_, _, hrun, ⟨_, G, rfl, by rw [List.length_map]; omega, .inr ⟨W.heap.size, G, _, rfl, hbase, heap_alloc_new W.drew _, hG, hG2, ?_, ?_⟩⟩, (Below.refl _ W).drew.alloc (Nat.le_refl _) _⟩
  · simp only [List.nil_append, Array.size_append, List.size_toArray, size_zeroCells, E.hzs, List.length_map]
    omega
  · simp only [List.nil_append, Array.toList_append, Nat.mul_one]
    rw [show Q.length = (Q.map (Value.int .u8)).length by rw [List.length_map]]
    exact List.take_left
end Go.Proofs.Ytgmjppjgbalapaa

/- Literal and Clone of package command; parts of a Literal. -/
namespace Go.Proofs.Ytgmjppjgbalapaa
open Go.RowKit Go.Shelf Go.Proofs.Ytgmjppjgbalapaa.Plain01
set_option linter.unusedVariables false
set_option linter.unusedSimpArgs false

theorem cutb_lh {w : World} {a : Option Addr} {l : List Int} {cap : Nat} (h : BytesIn w a l cap) (lo hi : Nat) (h1 : lo ≤ hi) (h2 : hi ≤ l.length) :
    ∃ A, (∀ W, (Instr.slice 24 (.slice a l.length cap) (some (.int .i64 (lo : Int))) (some (.int .i64 (hi : Int))) none).run Try.prog W = .ok (.slice A (hi - lo) (cap - lo)) W) ∧ BytesIn w A ((l.drop lo).take (hi - lo)) (cap - lo) := by
  have hlen : ((l.drop lo).take (hi - lo)).length = hi - lo := by rw [List.length_take, List.length_drop]; omega
  refine ⟨if cap = lo then a else a.map (·.add (lo * 1)), fun W => ?_, by rw [hlen]; have := h.len; omega, by have := h.capb; omega, fun hp => ?_, fun h0 => ?_⟩
  · rw [run_slice_lh (P := Try.prog) W 24 a l.length cap (by kernel_rfl) .i64 .i64 (lo : Int) (hi : Int) (by omega) (by omega) (by have := h.len; omega), size_u8]
    simp only [Result.andThen_ok, sliced, Int.toNat_natCast]
  · rw [hlen] at hp
    obtain ⟨b, o, rfl, hc⟩ := h.cells (by omega)
    have := h.len
    rw [if_neg (by omega)]
    refine ⟨b, o + lo, by simp [Addr.add_mid], fun i hi => ?_⟩
    rw [hlen] at hi
    rw [Nat.add_assoc, hc (lo + i) (by omega), List.getElem?_take, if_pos (by omega), List.getElem?_drop]
  · by_cases hc : cap = lo
    · omega
    · rw [if_neg hc] at h0
      cases a with
      | none => have := h.nil rfl; omega
      | some ad => cases h0

theorem own_setCell {w : World} {base b : Nat} {e : TypeId} {v : Value} {n : Nat} {xs : List Value} (h : w.ownsRow base e 1 v n xs) (hb : b < base) (i : Nat) (u : Value) : (w.setCell ⟨b, i, none⟩ u).ownsRow base e 1 v n xs :=
  ⟨h.1, h.2.imp id fun ⟨g, cap, cur, h1, h2, h3, h4⟩ => ⟨g, cap, cur, h1, h2, (Below.heap_setCell _ _ _ _ (by simp only; omega)).trans h3, h4⟩⟩
/-- Five cells of a block ahead of a new slice are written. -/
theorem OwnW.under {w0 w1 : World} {e : TypeId} {v : Value} {xs : List Value} (s : OwnW w1 e v xs) (hB : Below w0.heap.size w0 w1) {b : Nat} (hb0 : w0.heap.size ≤ b) (hb1 : b < w1.heap.size) (v0 v1 v2 v3 v4 : Value) :
    ∃ s' : OwnW w0 e v xs, ((((s.w.setCell ⟨b, 0, none⟩ v0).setCell ⟨b, 1, none⟩ v1).setCell ⟨b, 2, none⟩ v2).setCell ⟨b, 3, none⟩ v3).setCell ⟨b, 4, none⟩ v4 = s'.w :=
  ⟨⟨_, below_put5 (hB.trans (s.below.mono hB.size)) hb0 _ _ _ _ _, (own_setCell (own_setCell (own_setCell (own_setCell (own_setCell s.own hb1 _ _) hb1 _ _) hb1 _ _) hb1 _ _) hb1 _ _).mono hB.size⟩, rfl⟩
theorem OwnW.under6 {w0 w1 : World} {e : TypeId} {v : Value} {xs : List Value} (s : OwnW w1 e v xs) (hB : Below w0.heap.size w0 w1) {b c : Nat} (hb0 : w0.heap.size ≤ b) (hb1 : b < w1.heap.size) (hc0 : w0.heap.size ≤ c) (hc1 : c < w1.heap.size) (i : Nat) (u v0 v1 v2 v3 v4 : Value) :
    ∃ s' : OwnW w0 e v xs, (((((s.w.setCell ⟨c, i, none⟩ u).setCell ⟨b, 0, none⟩ v0).setCell ⟨b, 1, none⟩ v1).setCell ⟨b, 2, none⟩ v2).setCell ⟨b, 3, none⟩ v3).setCell ⟨b, 4, none⟩ v4 = s'.w :=
  ⟨⟨_, below_put5 ((hB.trans (s.below.mono hB.size)).setCell (p := ⟨c, i, none⟩) hc0 _) hb0 _ _ _ _ _, (own_setCell (own_setCell (own_setCell (own_setCell (own_setCell (own_setCell s.own hc1 _ _) hb1 _ _) hb1 _ _) hb1 _ _) hb1 _ _) hb1 _ _).mono hB.size⟩, rfl⟩
theorem OwnW.lift {w0 w1 : World} {e : TypeId} {v : Value} {xs : List Value} (s : OwnW w1 e v xs) (hB : Below w0.heap.size w0 w1) : ∃ s' : OwnW w0 e v xs, s.w = s'.w :=
  ⟨⟨s.w, hB.trans (s.below.mono hB.size), s.own.mono hB.size⟩, rfl⟩

theorem parts_one {w : World} {b m c : Nat} {A : Option Addr} {Q : List Int} {t : TypeId} {fr : Nat × Nat} (h : w.heap[b]? = some (.cells #[.slice A m c] t fr)) (hQ : Q.length = m) (hA : BytesIn w A Q c) : PartsIn w (some ⟨b, 0, none⟩) [Q] :=
  ⟨by simp, fun _ => ⟨b, 0, rfl, fun i hi => by
    obtain rfl : i = 0 := by simp at hi; omega
    subst hQ
    exact ⟨A, c, by rw [cell_of_row w b _ _ _ _ h]; rfl, hA⟩⟩⟩

/-- It returns a value that holds a new slice of its own. -/
def MakesC (mk : Value → Value) (l : List Int) (w : World) (en : Ending) (w' : World) : Prop := ∃ v, en = .returned (mk v) ∧ ∃ s : OwnW w 5 v (l.map (Value.int .u8)), w' = s.w

/-- A listed block, behind a callee that makes a slice. -/
theorem OwnW.cmdF {w1 : World} {e : TypeId} {v : Value} {xs : List Value} (s : OwnW w1 e v xs) {b : Nat} {k t f n : Int} {u : Value} (h : w1.heap[b]? = some (cmdO k t f n u)) :
    s.w.cell? ⟨b, 0, none⟩ = some (.int .i64 k) ∧ s.w.cell? ⟨b, 1, none⟩ = some (.int .i64 t) ∧ s.w.cell? ⟨b, 2, none⟩ = some (.int .i64 f) ∧ s.w.cell? ⟨b, 3, none⟩ = some (.int .i64 n) ∧ s.w.cell? ⟨b, 4, none⟩ = some u ∧ ∀ i, s.w.frozen? ⟨b, i, none⟩ = false := by
  have h' := heap_below h s.below
  obtain ⟨h0, h1, h2, h3, h4⟩ := cmd_cells h'
  exact ⟨h0, h1, h2, h3, h4, fun i => free_of h' i⟩

set_option maxRecDepth 100000 in
set_option maxHeartbeats 4000000 in
theorem mliteral_any (t : Int) (ls : List (List Int)) (pa : Option Addr) (pcap : Nat) (w : World) (hp : PartsIn w pa ls) (hm : ls.flatten.length ≤ 140737488351232) :
    Calls Try.prog 62 #[.int .i64 t, .slice pa ls.length pcap] w (MakesC (fun v => cmdV 2 t 0 0 v) ls.flatten w) := by
  have hB : Below w.heap.size w (w.alloc (cmdO 0 0 0 0 (.slice none 0 0))) := (Below.refl _ w).alloc (Nat.le_refl _) _
  have hc := concat8_any ls pa pcap (w.alloc (cmdO 0 0 0 0 (.slice none 0 0))) (hp.below hB) hm
  generalize ls.length = m at hc ⊢
  generalize ls.flatten = l at hc ⊢
  clear hp hm
  go_enter Try.func62, Try.ntmps62
  go_wp2_with fail
  refine hc.mono ?_
  rintro e _ ⟨v, rfl, s, rfl⟩
  obtain ⟨r0, r1, r2, r3, r4, r5⟩ := s.cmdF (b := w.heap.size) (heap_new w _ rfl)
  obtain ⟨A, C, rfl, hA⟩ := s.bytes
  go_wp2
  obtain ⟨s', hs'⟩ := s.under hB (b := w.heap.size) (Nat.le_refl _) (by simp) (.int .i64 2) (.int .i64 t) (.int .i64 0) (.int .i64 0) (.slice A l.length C)
  refine bodyPost_ret (v := cmdV 2 t 0 0 (.slice A l.length C)) (by simp [results, Try.results62, go_sem, r0, r1, r2, r3, r4]) rfl ⟨_, rfl, s', hs'⟩

set_option maxRecDepth 100000 in
set_option maxHeartbeats 4000000 in
theorem mclone_any (k t f n : Int) (l : List Int) (a : Option Addr) (cap : Nat) (w : World) (hb : BytesIn w a l cap) (hm : l.length ≤ 1000000) :
    Calls Try.prog 30 #[cmdV k t f n (.slice a l.length cap)] w (MakesC (fun v => cmdV k t f n v) l w) := by
  have hB := below2 w (cmdO k t f n (.slice a l.length cap)) (cmdO 0 0 0 0 (.slice none 0 0))
  have hc := clone8_any l a cap ((w.alloc (cmdO k t f n (.slice a l.length cap))).alloc (cmdO 0 0 0 0 (.slice none 0 0))) (hb.below hB) hm
  generalize l.length = m at hc hB ⊢
  clear hb hm
  go_enter Try.func30, Try.ntmps30
  go_wp2_with fail
  refine hc.mono ?_
  rintro e _ ⟨v, rfl, s, rfl⟩
  obtain ⟨r0, r1, r2, r3, r4, r5⟩ := s.cmdF (b := w.heap.size + 1) (heap_new _ _ (by simp))
  obtain ⟨q0, q1, q2, q3, q4, q5⟩ := s.cmdF (b := w.heap.size) (heap_old (heap_new w (cmdO k t f n (.slice a m cap)) rfl) _)
  obtain ⟨A, C, rfl, hA⟩ := s.bytes
  go_wp2
  obtain ⟨s', hs'⟩ := s.under6 hB (b := w.heap.size + 1) (c := w.heap.size) (by omega) (by simp) (Nat.le_refl _) (by simp; omega) 4 (.slice A l.length C) (.int .i64 k) (.int .i64 t) (.int .i64 f) (.int .i64 n) (.slice A l.length C)
  refine bodyPost_ret (v := cmdV k t f n (.slice A l.length C)) (by simp [results, Try.results30, go_sem, r0, r1, r2, r3, r4]) rfl ⟨_, rfl, s', hs'⟩

end Go.Proofs.Ytgmjppjgbalapaa
