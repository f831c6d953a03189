import Derived.BigQuiet
import Derived.Test.YtdedfjkenbaebaaDoorE08a23
import Derived.LoopTactic
import Derived.Test.YtdedfjkenbaebaaDoorE08a13
/- equal of the reference of package patch. -/
namespace Go.Proofs.YtdedfjkenbaebaaDoor
open Go.RowKit
set_option linter.unusedVariables false
set_option linter.unusedSimpArgs false

set_option maxRecDepth 100000 in
set_option maxHeartbeats 4000000 in
theorem requal8_any (a b : Option Addr) (l x : List Int) (cap capx : Nat) (w : World) (hl : BytesIn w a l cap) (hx : BytesIn w b x capx) (ol : OkB l) (ox : OkB x) :
    Calls Tryd.prog 58 #[.slice a l.length cap, .slice b x.length capx] w (Gives (.int .i64 (comm l x : Int)) w) := by
  have HL := Lib.hid hl
  have HX := Lib.hid hx
  have hlb : l.length ≤ 9223372036854775807 := Nat.le_trans hl.len hl.capb
  have hxb : x.length ≤ 9223372036854775807 := Nat.le_trans hx.len hx.capb
  have hcs : Hid (∀ k, k < l.length → k < x.length → l.take k = x.take k → (l[k]?.getD 0 = x[k]?.getD 0 → l.take (k + 1) = x.take (k + 1)) ∧ (l[k]?.getD 0 ≠ x[k]?.getD 0 → comm l x = k)) := Lib.hid fun k h1 h2 h3 => comm_step h1 h2 h3
  have hce : Hid (∀ k, k = min l.length x.length → l.take k = x.take k → comm l x = k) := Lib.hid fun k h1 h2 => comm_end h2 h1
  obtain ⟨POST, hP⟩ : ∃ P, P = Gives (.int .i64 (comm l x : Int)) w := ⟨_, rfl⟩
  rw [← hP]
  have HP := Lib.hid hP
  obtain ⟨LA, hLA⟩ : ∃ n, n = l.length := ⟨_, rfl⟩
  obtain ⟨LB, hLB⟩ : ∃ n, n = x.length := ⟨_, rfl⟩
  have HLA := Lib.hid hLA
  have HLB := Lib.hid hLB
  rw [← hLA] at hlb ⊢
  rw [← hLB] at hxb ⊢
  obtain ⟨m, hm⟩ : ∃ m, m = min LA LB := ⟨_, rfl⟩
  have HM := Lib.hid hm
  clear hl hx hP hLA hLB hm
  go_enter Tryd.func58, Tryd.ntmps58
  go_wp2
  go_loopw [5] (fun i wr => ∃ k : Nat, k ≤ m ∧ i = .int .i64 k ∧ l.take k = x.take k ∧ ∃ s : HeldW w [], wr = s.w) (fun i _ => m - (intOf i).toNat)
  case atStart => exact ⟨0, by omega, rfl, rfl, HeldW.start w, rfl⟩
  case round =>
    obtain ⟨k, hk, rfl, htk, s, rfl⟩ := hrel
    by_cases hlt : k < m
    · have hkA : k < LA := by have := HM.out; omega
      have hkB : k < LB := by have := HM.out; omega
      obtain ⟨b1, o1, rfl, hc1⟩ := HL.out.cells (by have := HLA.out; omega)
      obtain ⟨b2, o2, rfl, hc2⟩ := HX.out.cells (by have := HLB.out; omega)
      have d1 : ∀ s : HeldW w [], s.w.cell? ⟨b1, o1 + k, none⟩ = some (.int .u8 (l[k]?.getD 0)) := fun s => by
        have := hc1 k (by have := HLA.out; omega)
        exact (s.below.cell (p := ⟨b1, o1 + k, none⟩) (World.block_lt_of_cell? _ _ this)).trans this
      have d2 : ∀ s : HeldW w [], s.w.cell? ⟨b2, o2 + k, none⟩ = some (.int .u8 (x[k]?.getD 0)) := fun s => by
        have := hc2 k (by have := HLB.out; omega)
        exact (s.below.cell (p := ⟨b2, o2 + k, none⟩) (World.block_lt_of_cell? _ _ this)).trans this
      obtain ⟨q1, q2⟩ := hcs.out k (by have := HLA.out; omega) (by have := HLB.out; omega) htk
      have HQ1 := Lib.hid q1
      have HQ2 := Lib.hid q2
      clear q1 q2 hc1 hc2 htk
      generalize l[k]?.getD 0 = u1 at d1 HQ1 HQ2
      generalize x[k]?.getD 0 = u2 at d2 HQ1 HQ2
      by_cases he : u1 = u2
      · have hb : (u1 == u2) = true := by simpa using he
        have hnx := Lib.hid (HQ1.out he)
        clear HQ1 HQ2 he
        go_wp2
        refine wp_region_class w [] (by kernel_rfl) (by kernel_rfl) s.below (by simp) (fun hne => ?_)
        repeat (go_big_quiet_step (fail))
        refine wpQuiet_nil ?_
        rintro _ ⟨s2, rfl⟩
        clear hne d1 d2 s
        go_wp2
        go_roundw
        case rel => exact ⟨k + 1, by omega, by go_num, hnx.out, s2, rfl⟩
        case measure => simp [intOf]; omega
      · have hb : (u1 == u2) = false := by simpa using he
        have hfin := Lib.hid (HQ2.out he)
        clear HQ1 HQ2 he
        go_wp2
        refine wp_region_class w [] (by kernel_rfl) (by kernel_rfl) s.below (by simp) (fun hne => ?_)
        repeat (go_big_quiet_step (fail))
        refine wpQuiet_nil ?_
        rintro _ ⟨s2, rfl⟩
        clear hne d1 d2 s
        have hQ : POST (.returned (.int .i64 (k : Int))) s2.w := by rw [HP.out, hfin.out]; exact ⟨rfl, s2.below⟩
        have HQ := Lib.hid hQ
        clear hQ
        go_wp2
        exact HQ.out
    · obtain rfl : k = m := by omega
      have hQ : ∀ s : HeldW w [], POST (.returned (.int .i64 (k : Int))) s.w := fun s => by
        rw [HP.out, hce.out k (by rw [← HLA.out, ← HLB.out]; exact HM.out) htk]
        exact ⟨rfl, s.below⟩
      have HQ := Lib.hid hQ
      clear hQ htk
      by_cases hA : k < LA
      · have hB : LB ≤ k := by have := HM.out; omega
        have hBB : decide (k < LB) = false := decide_eq_false (by omega)
        clear hB
        go_wp2
        refine wp_region_class w [] (by kernel_rfl) (by kernel_rfl) s.below (by simp) (fun hne => ?_)
        repeat (go_big_quiet_step (fail))
        refine wpQuiet_nil ?_
        rintro _ ⟨s2, rfl⟩
        have HQ2 := Lib.hid (HQ.out s2)
        clear hne s
        go_wp2
        exact HQ2.out
      · have hAA : (LA : Int) ≤ (k : Int) := by omega
        go_wp2
        refine wp_region_class w [] (by kernel_rfl) (by kernel_rfl) s.below (by simp) (fun hne => ?_)
        repeat (go_big_quiet_step (fail))
        refine wpQuiet_nil ?_
        rintro _ ⟨s2, rfl⟩
        have HQ2 := Lib.hid (HQ.out s2)
        clear hne s
        go_wp2
        exact HQ2.out
end Go.Proofs.YtdedfjkenbaebaaDoor

/- match of the reference of package patch. -/
namespace Go.Proofs.YtdedfjkenbaebaaDoor
open Go.RowKit
set_option linter.unusedVariables false
set_option linter.unusedSimpArgs false

/-- What match returns. -/
def mq8 : Option (Nat × Nat) → Int × Int
  | some (q, n) => (q, n)
  | none => (-1, 0)
theorem comm_win {l x : List Int} {N j : Nat} (hx : N ≤ x.length) (hj : j + N ≤ l.length) : (wins N l)[j]? = some (x.take N) ↔ N ≤ comm (l.drop j) x := by
  rw [wins_get hj, comm_iff (by rw [List.length_drop]; omega) hx]
  constructor
  · intro h; exact Option.some.inj h
  · intro h; rw [h]
theorem findN_0 {l x : List Int} {N : Nat} (hN : 1 ≤ N) (hx : N ≤ x.length) : findN l x N 0 = if fidx (wins N l) (x.take N) = -1 then none else some ((fidx (wins N l) (x.take N)).toNat, comm (l.drop (fidx (wins N l) (x.take N)).toNat) x) := by
  unfold findN
  rw [if_neg (by omega), List.drop_zero, Int.toNat_natCast]
theorem match_yes {l x : List Int} {N q : Nat} (hN : 1 ≤ N) (hx : N ≤ x.length) (hq : q + N ≤ l.length) (hge : N ≤ comm (l.drop q) x) (hno : ∀ j, j < q → comm (l.drop j) x < N) : findN l x N 0 = some (q, comm (l.drop q) x) := by
  have hf : fidx (wins N l) (x.take N) = q := fidx_eq ((comm_win hx hq).2 hge) (fun j hj h => by
    have := (comm_win hx (j := j) (by omega)).1 h
    have := hno j hj
    omega)
  rw [findN_0 hN hx, hf, if_neg (by omega), Int.toNat_natCast]
theorem match_no {l x : List Int} {N : Nat} (hN : 1 ≤ N) (hx : N ≤ x.length) (hno : ∀ j, j + N ≤ l.length → comm (l.drop j) x < N) : findN l x N 0 = none := by
  rw [findN_0 hN hx]
  refine if_pos ?_
  rw [fidx_none]
  intro hm
  obtain ⟨j, hj, he⟩ := wins_mem hm hN
  have h1 : (wins N l)[j]? = some (x.take N) := by rw [wins_get hj, he]
  have := (comm_win hx hj).1 h1
  have := hno j hj
  omega

set_option maxRecDepth 100000 in
set_option maxHeartbeats 4000000 in
theorem rmatch8_any (a b : Option Addr) (l x : List Int) (cap capx : Nat) (block : Int) (w : World) (hl : BytesIn w a l cap) (hx : BytesIn w b x capx) (ol : OkB l) (ox : OkB x) (hL : l.length ≤ 1000) (hX : x.length ≤ 1000) :
    Calls Tryd.prog 35 #[.slice a l.length cap, .slice b x.length capx, .int .i64 block] w (Gives (.tuple #[.int .i64 (mq8 (findN l x block 0)).1, .int .i64 (mq8 (findN l x block 0)).2]) w) := by
  obtain ⟨POST, hP⟩ : ∃ P, P = Gives (.tuple #[.int .i64 (mq8 (findN l x block 0)).1, .int .i64 (mq8 (findN l x block 0)).2]) w := ⟨_, rfl⟩
  have HNO : Hid (findN l x block 0 = none → ∀ s : HeldW w [], POST (.returned (.tuple #[.int .i64 (-1), .int .i64 0])) s.w) := Lib.hid fun h s => by
    rw [hP, h]
    exact ⟨rfl, s.below⟩
  have HYES : Hid (∀ q n : Nat, findN l x block 0 = some (q, n) → ∀ s : HeldW w [], POST (.returned (.tuple #[.int .i64 (q : Int), .int .i64 (n : Int)])) s.w) := Lib.hid fun q n h s => by
    rw [hP, h]
    exact ⟨rfl, s.below⟩
  rw [← hP]
  have HL := Lib.hid hl
  have HX := Lib.hid hx
  have hlc := hl.len
  have hlcap := hl.capb
  by_cases h1 : block < 1
  · have HN := Lib.hid (HNO.out (by unfold findN; rw [if_pos (by omega)]))
    clear hP hl hx HNO HYES
    go_enter Tryd.func35, Tryd.ntmps35
    go_wp2
    exact HN.out (HeldW.start w)
  · by_cases h2 : (x.length : Int) < block
    · have HN := Lib.hid (HNO.out (by unfold findN; rw [if_pos (by omega)]))
      clear hP hl hx HNO HYES
      go_enter Tryd.func35, Tryd.ntmps35
      go_wp2
      exact HN.out (HeldW.start w)
    · obtain ⟨N, rfl⟩ : ∃ N : Nat, block = N := ⟨block.toNat, by omega⟩
      have hNx : N ≤ x.length := by omega
      have hN1 : 1 ≤ N := by omega
      have HC : Hid (∀ (s : HeldW w []) (q : Nat), q ≤ l.length → Calls Tryd.prog 58 #[.slice (slA8 a cap q) (l.length - q) (cap - q), .slice b x.length capx] s.w (Gives (.int .i64 (comm (l.drop q) x : Nat)) s.w)) := Lib.hid fun s q hq => by
        have := requal8_any _ _ _ _ _ _ s.w ((HL.out.below s.below).from8 q hq) (HX.out.below s.below) (fun y hy => ol y (List.mem_of_mem_drop hy)) ox
        rw [List.length_drop] at this
        exact this
      have HY : Hid (∀ q : Nat, q + N ≤ l.length → N ≤ comm (l.drop q) x → (∀ j, j < q → comm (l.drop j) x < N) → ∀ s : HeldW w [], POST (.returned (.tuple #[.int .i64 (q : Int), .int .i64 (comm (l.drop q) x : Nat)])) s.w) := Lib.hid fun q h3 h4 h5 s => HYES.out q _ (match_yes hN1 hNx h3 h4 h5) s
      have HN : Hid ((∀ j, j + N ≤ l.length → comm (l.drop j) x < N) → ∀ s : HeldW w [], POST (.returned (.tuple #[.int .i64 (-1), .int .i64 0])) s.w) := Lib.hid fun h s => HNO.out (match_no hN1 hNx h) s
      have e2 := fun (q : Nat) (hq : q ≤ l.length) W => cut8_l (a := a) q hq hlc W
      have E2 := Lib.hid e2
      obtain ⟨cm, hcm⟩ : ∃ f : Nat → Nat, f = fun j => comm (l.drop j) x := ⟨_, rfl⟩
      have hcj : ∀ j, comm (l.drop j) x = cm j := fun j => by rw [hcm]
      simp only [hcj] at HC HY HN
      generalize l.length = LL at *
      generalize x.length = XX at *
      clear hP hl hx HNO HYES HL HX e2 hcm hcj
      go_enter Tryd.func35, Tryd.ntmps35
      go_wp2
      go_loopw [8] (fun v wr => ∃ q : Nat, q ≤ LL ∧ v = .int .i64 (q : Int) ∧ Hid (∀ j, j < q → cm j < N) ∧ ∃ s : HeldW w [], wr = s.w) (fun v _ => LL + 1 - (intOf v).toNat)
      case atStart => exact ⟨0, by omega, rfl, Lib.hid (fun j hj => by omega), HeldW.start w, rfl⟩
      case round =>
        obtain ⟨q, hq, rfl, hno, s, rfl⟩ := hrel
        by_cases hlt : q + N ≤ LL
        · have e3 := E2.out q hq
          have hcall := HC.out s q hq
          by_cases hge : N ≤ cm q
          · have HQ := Lib.hid (HY.out q hlt hge hno.out)
            generalize cm q = cq at *
            go_wp2_with fail
            refine (HeldW.call hcall).mono ?_
            rintro e _ ⟨rfl, s2, rfl⟩
            have HR := Lib.hid (HQ.out s2)
            clear e3 hcall HQ
            go_wp2
            exact HR.out
          · have hnx := Lib.hid (show ∀ j, j < q + 1 → cm j < N from fun j hj => by
              by_cases hjq : j = q
              · subst hjq; omega
              · exact hno.out j (by omega))
            have hlt2 : cm q < N := by omega
            generalize cm q = cq at *
            have hd : decide (N ≤ cq) = false := decide_eq_false hge
            clear hge
            go_wp2_with fail
            refine (HeldW.call hcall).mono ?_
            rintro e _ ⟨rfl, s2, rfl⟩
            clear e3 hcall
            go_wp2
            go_roundw
            case rel => exact ⟨q + 1, by omega, by go_num, hnx, s2, rfl⟩
            case measure => simp [intOf]; omega
        · have HQ := Lib.hid (HN.out (fun j hj => hno.out j (by omega)) s)
          have hd : ¬ ((q : Int) + (N : Int) ≤ (LL : Int)) := by omega
          clear hno
          go_wp2
          exact HQ.out
end Go.Proofs.YtdedfjkenbaebaaDoor

/- An append in place beside floating operations: rows of bytes. -/
namespace Go.Proofs.YtdedfjkenbaebaaDoor
open Go.RowKit
set_option linter.unusedVariables false
set_option linter.unusedSimpArgs false

/-- Rows with those cells keep them. -/
def ExtB8 (base at_ : Nat) (X Y : List Value) (W W' : World) : Prop := ∀ v n xs, (n = 0 ∧ xs = [] ∨ n = at_ ∧ xs = X ∨ n = 1 ∧ xs = Y ∨ n = at_ + 1 ∧ xs = X ++ Y) → W.ownsRow base 5 1 v n xs → W'.ownsRow base 5 1 v n xs
theorem extB8_below {base at_ : Nat} {X Y : List Value} {W W' : World} (h : Below W.heap.size W W') : ExtB8 base at_ X Y W W' := fun v n xs _ ho => own_later ho h

theorem append_ext8 {W0 W : World} (hC : Below W0.heap.size W0 W) {at_ : Nat} {X Y : List Value} {v : Value} (hv : W.ownsRow W0.heap.size 5 1 v at_ X) (ad : Addr) (c : Nat) (hY : Y.length = 1 * 1) (hnews : ∀ j u, Y[j]? = some u → W.cell? (ad.add j) = some u) (h1 : ∀ u ∈ Y, u.oneCell' = true) (hm : at_ ≤ 1000000) (ty : TypeId) :
    ∃ v' W', (Builtin.append_ #[22, 22] ty #[v, .slice (some ad) 1 c]).run Tryd.prog W = .ok v' W' ∧ W'.ownsRow W0.heap.size 5 1 v' (at_ + 1) (X ++ Y) ∧ Below W0.heap.size W0 W' ∧ ExtB8 W0.heap.size at_ X Y W W' := by
  obtain ⟨E, hE⟩ := elemW8
  obtain ⟨v', W', hrun, ho, hg, _⟩ := run_append_own (P := Tryd.prog) W W0.heap.size 22 ty 5 E.i E.z 1 E.bytes E.ht E.hi E.hz E.hsize E.hby E.hzs E.hsz v at_ X hv ad 1 c Y hY hnews h1 (by unfold maxLen; omega) (by rw [hE]; omega) hC.size
  refine ⟨v', W', hrun, ho, hC.grown hg hC.size (fun k hk => (hv.lt k hk).1), ?_⟩
  rcases hv.2 with ⟨rfl, h0⟩ | ⟨g, cap, cur, rfl, hbg, hgc, hnc, hcm, hcs, htake⟩
  · exact extB8_below ((Below.refl _ W).grown hg (Nat.le_refl _) (fun k hk => by cases hk))
  · by_cases hroom : at_ + 1 ≤ cap
    · have hl1 : Y.length = 1 * E.i.size := by rw [E.hsize, hY]
      have hr := run_append_room (P := Tryd.prog) W 22 ty 5 E.i E.ht E.hi g at_ cap cur hgc ad 1 c Y hl1 hnews h1 hroom (by rw [hl1, hcs, E.hsize, ← Nat.add_mul]; exact Nat.mul_le_mul_right _ hroom)
      rw [hr] at hrun
      injection hrun with h2 h3
      subst h3
      rw [E.hsize]
      intro u n xs hn hu
      refine ⟨hu.1, ?_⟩
      rcases hu.2 with h | ⟨g2, cap2, cur2, e1, e2, e3, e4, e5, e6, e7⟩
      · exact .inl h
      · right
        by_cases hgg : g2 = g
        · subst hgg
          obtain ⟨rfl, _⟩ : cur2 = cur ∧ True := by
            rw [hgc] at e3
            simp only [Option.some.injEq, Obj.cells.injEq] at e3
            exact ⟨e3.1.symm, trivial⟩
          have hxl : X.length = at_ * 1 := hv.1
          have hcl : cur2.toList.length = cap2 * 1 := by simpa using e6
          have hcc : cap2 = cap := by omega
          refine ⟨g2, cap2, _, e1, e2, setRow_heap _ _ _ _ _ _ e3, e4, e5, ?_, ?_⟩
          · simp only [List.size_toArray, List.length_append, List.length_take, List.length_drop, hY, hcl]
            omega
          · simp only [htake]
            rcases hn with ⟨rfl, rfl⟩ | ⟨rfl, rfl⟩ | ⟨rfl, rfl⟩ | ⟨rfl, rfl⟩
            · simp
            · rw [List.append_assoc, ← hxl, List.take_left]
            · by_cases ha : at_ = 0
              · subst ha
                have : X = [] := List.eq_nil_of_length_eq_zero (by omega)
                subst this
                rw [List.nil_append, ← hY, List.take_left]
              · rw [List.append_assoc, List.take_append_of_le_length (by omega), ← htake, List.take_take, Nat.min_eq_left (by omega)]
                exact e7
            · have : (at_ + 1) * 1 = (X ++ Y).length := by rw [List.length_append, hxl, hY]; omega
              rw [this, List.take_left]
        · exact ⟨g2, cap2, cur2, e1, e2, (setRow_other _ _ _ _ hgg).trans e3, e4, e5, e6, e7⟩
    · refine extB8_below ?_
      have hl1 : Y.length = 1 * E.i.size := by rw [E.hsize, hY]
      have hr := run_append_grow (P := Tryd.prog) W 22 ty 5 E.i E.z E.ht E.hi E.hz ⟨g, 0, none⟩ at_ cap X (by rw [E.hsize]; exact hv.1) (hv.cells (g := g) rfl) ad 1 c Y hl1 hnews (by omega) (by omega) (growslice_fits (by omega) (by rw [E.hby, hE]; omega))
      rw [hr] at hrun
      injection hrun with h2 h3
      subst h3
      exact (Below.refl _ W).drew.alloc (Nat.le_refl _) _


theorem ExtB8.refl (base at_ : Nat) (X Y : List Value) (W : World) : ExtB8 base at_ X Y W W := fun _ _ _ _ h => h
/-- A row of bytes of the call's own, with those cells. -/
def IsRowB (base n : Nat) (xs : List Value) : Value → World → Prop := fun v w => w.ownsRow base 5 1 v n xs
theorem stable_rowB (base at_ : Nat) (X Y : List Value) (n : Nat) (xs : List Value) (h : n = 0 ∧ xs = [] ∨ n = at_ ∧ xs = X ∨ n = 1 ∧ xs = Y ∨ n = at_ + 1 ∧ xs = X ++ Y) : Stable (ExtB8 base at_ X Y) (IsRowB base n xs) := fun v w w' ho hE => hE v n xs h ho
/-- A byte in a row of its own. -/
def IsBoxB (base : Nat) (y : Int) : Value → World → Prop := fun v w => ∃ B, v = .slice (some ⟨B, 0, none⟩) 1 1 ∧ w.ownsRow base 5 1 v 1 [.int .u8 y]
theorem stable_boxB (base at_ : Nat) (X : List Value) (y : Int) : Stable (ExtB8 base at_ X [.int .u8 y]) (IsBoxB base y) := fun v w w' ⟨B, h1, h2⟩ hE => ⟨B, h1, hE v 1 _ (.inr (.inr (.inl ⟨rfl, rfl⟩))) h2⟩
/-- An empty row of its own. -/
def IsNoneB (base : Nat) : Value → World → Prop := fun v w => ∃ B, v = .slice (some ⟨B, 0, none⟩) 0 0 ∧ base ≤ B ∧ w.ownsRow base 5 1 v 0 []
theorem stable_noneB (base at_ : Nat) (X Y : List Value) : Stable (ExtB8 base at_ X Y) (IsNoneB base) := fun v w w' ⟨B, h1, hb, h2⟩ hE => ⟨B, h1, hb, hE v 0 [] (.inl ⟨rfl, rfl⟩) h2⟩
end Go.Proofs.YtdedfjkenbaebaaDoor
