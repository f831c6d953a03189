/- The fields of a law, and what the reference writes of them. -/
import Derived.Test.Ytclalbiggnalfaa06Alive
namespace Go.Proofs.Ytclalbiggnalfaa
open Go.RowKit
set_option linter.unusedVariables false
set_option linter.unusedSimpArgs false

/-- The cells of fields, one behind the other. -/
def fcells (fs : List (Int × Int)) : List Value := fs.flatMap fun f => [.int .u64 f.1, .int .i64 f.2]
theorem fcells_snoc {fs : List (Int × Int)} {k : Nat} {f : Int × Int} (h : fs[k]? = some f) : fcells (fs.take (k + 1)) = fcells (fs.take k) ++ [.int .u64 f.1, .int .i64 f.2] := by
  obtain ⟨hk, rfl⟩ := List.getElem?_eq_some_iff.1 h
  unfold fcells
  rw [List.take_succ_eq_append_getElem hk, List.flatMap_append]
  simp only [List.flatMap_cons, List.flatMap_nil, List.append_nil]
theorem fcells_get : ∀ (fs : List (Int × Int)) (i : Nat) (f : Int × Int), fs[i]? = some f → (fcells fs)[i * 2]? = some (.int .u64 f.1) ∧ (fcells fs)[i * 2 + 1]? = some (.int .i64 f.2) := by
  intro fs
  induction fs with
  | nil => intro i f h; simp at h
  | cons g fs ih =>
    intro i f h
    have e : fcells (g :: fs) = .int .u64 g.1 :: .int .i64 g.2 :: fcells fs := rfl
    rw [e]
    cases i with
    | zero => simp at h; subst h; exact ⟨rfl, rfl⟩
    | succ i =>
      have := ih i f (by simpa using h)
      rw [show (i + 1) * 2 = i * 2 + 1 + 1 by omega]
      exact this
theorem elem2 : ∃ E : ElemS Try.prog 25 36 2, E.bytes = 16 := by
  have h : (Try.prog.info? 36).map (fun i => (i.zero, i.size, i.bytes)) = some (some (.agg #[.int .u64 0, .int .i64 0]), 2, 16) := by kernel_rfl
  obtain ⟨i, hi, he⟩ := Option.map_eq_some_iff.1 h
  simp only [Prod.mk.injEq] at he
  exact ⟨⟨i, .agg #[.int .u64 0, .int .i64 0], 16, Try.underlying25, hi, he.1, he.2.1, he.2.2, rfl, by omega⟩, rfl⟩

/-- A row of fields can be read. -/
theorem row_fields {w : World} {base : Nat} {v : Value} {n : Nat} {fs : List (Int × Int)} (h : w.ownsRow base 36 2 v n (fcells fs)) (hn : n = fs.length) (hok : ∀ f ∈ fs, (0 ≤ f.1 ∧ f.1 < 18446744073709551616) ∧ (-9223372036854775808 ≤ f.2 ∧ f.2 ≤ 9223372036854775807)) :
    ∃ (a : Option Addr) (cap : Nat), v = .slice a fs.length cap ∧ FieldsIn w a fs cap := by
  subst hn
  rcases h.2 with ⟨rfl, h0⟩ | ⟨g, cap, cur, rfl, hb, hg, hc1, hc2, hsz, htk⟩
  · obtain rfl := List.eq_nil_of_length_eq_zero h0
    exact ⟨none, 0, rfl, ⟨by simp, by omega, fun h => by simp at h, hok⟩⟩
  · refine ⟨_, cap, rfl, ⟨hc1, by unfold maxLen at hc2; omega, fun _ => ⟨g, 0, rfl, fun i f hi => ?_⟩, hok⟩⟩
    obtain ⟨h1, h2⟩ := fcells_get fs i f hi
    have get : ∀ j u, (fcells fs)[j]? = some u → w.cell? ⟨g, j, none⟩ = some u := fun j u hu => by
      rw [← htk, List.getElem?_take] at hu
      split at hu
      · rw [cell_of hg]; simpa using hu
      · cases hu
    rw [Nat.zero_add]
    exact ⟨get _ _ h1, get _ _ h2⟩

/-- A new slice of its own is one more row. -/
theorem Piles.made {w0 : World} {rs : List Row} (S : Piles w0 rs) {e : TypeId} {v : Value} {xs : List Value} (s : OwnW S.w e v xs) : ∃ S' : Piles w0 (⟨e, 1, v, xs.length, xs⟩ :: rs), s.w = S'.w :=
  S.fresh s.below _ ⟨s.own.1, s.own.2.imp id fun ⟨g, cap, cur, h1, h2, h3⟩ => ⟨g, cap, cur, h1, Nat.le_trans S.below.size h2, h3⟩⟩ (fun g hg => (s.own.lt g hg).1)

/-- One element of two cells, in a new literal, is appended to the second row. -/
theorem wpList_append_two {P : Program} {t e : TypeId} (E : ElemS P t e 2) {w0 : World} {r1 : Row} {rs : List Row} {v : Value} {n : Nat} {xs : List Value} {ops : Array Oper} {rest : List Oper} {o : Oper} {a : Act} {Q : Exit → Act → World → Prop} (S : Piles w0 (r1 :: ⟨e, 2, v, n, xs⟩ :: rs)) (x y : Value) (hx1 : x.oneCell' = true) (hy1 : y.oneCell' = true) (sO xO : Operand)
    (hgd : o.guard = none) (ho : o.op = .call { callee := .builtin .append, args := #[sO, xO], argTypes := #[t, t] }) (hs : a.eval sO = v) (p : Nat) (hp : p = S.w.heap.size) (hx : a.eval xO = .slice (some ⟨p, 0, none⟩) 1 1) (h63 : n + 1 ≤ maxLen) (hbytes : (n + 1) * E.bytes ≤ 140737488355328)
    (H : ∀ v' (S' : Piles w0 (⟨e, 2, v', n + 1, xs ++ [x, y]⟩ :: r1 :: rs)), wpList P ops Q rest (a.put o.dst v') S'.w) : wpList P ops Q (o :: rest) a (S.w.alloc (.cells #[x, y] e)) := by
  subst hp
  obtain ⟨S3, hS3⟩ := S.later (w' := S.w.alloc (.cells #[x, y] e)) ((Below.refl _ _).alloc (Nat.le_refl _) _)
  obtain ⟨S4, hS4⟩ := S3.perm (rs' := ⟨e, 2, v, n, xs⟩ :: r1 :: rs) (List.Perm.swap _ _ _)
  have hc : ∀ j u, ([x, y] : List Value)[j]? = some u → S4.w.cell? ⟨S.w.heap.size, j, none⟩ = some u := fun j u hu => by
    rw [← hS4, ← hS3, cell_of (World.alloc_heap_new S.w _)]; simpa using hu
  rw [hS3, hS4]
  refine wpList_append_pilesS E S4 sO xO hgd ho hs (some ⟨S.w.heap.size, 0, none⟩) 1 1 [x, y] rfl hx (fun h => by cases h) (fun ad had j u hu => ?_) (fun u hu => by simp at hu; rcases hu with rfl | rfl; exact hx1; exact hy1) h63 hbytes H
  obtain rfl := Option.some.inj had
  rw [Addr.add_mid, Nat.zero_add]
  exact hc j u hu

/-- What fields returns. -/
def FieldsPost (fs : List (Int × Int)) (w : World) (e : Ending) (w' : World) : Prop := ∃ vo vb, e = .returned (.tuple #[vo, vb, .bool (fs.all fitF)]) ∧ ∃ ws : List Int, (fs.all fitF = true → ws = encs fs) ∧
  ∃ S : Piles w [⟨36, 2, vo, fs.length, fcells fs⟩, ⟨5, 1, vb, ws.length, ws.map (Value.int .u8)⟩], w' = S.w

abbrev lRow (b : Nat) (f : Int × Int) : Row := ⟨54, 2, .slice (some ⟨b, 0, none⟩) 1 1, 1, [.int .u64 f.1, .int .i64 f.2]⟩

theorem all_takeB {fs : List (Int × Int)} {k : Nat} {f : Int × Int} (h : fs[k]? = some f) : (fs.take (k + 1)).all fitF = ((fs.take k).all fitF && fitF f) := by
  obtain ⟨hk, rfl⟩ := List.getElem?_eq_some_iff.1 h
  rw [List.take_succ_eq_append_getElem hk, List.all_append]
  simp

set_option maxRecDepth 100000 in
set_option maxHeartbeats 4000000 in
theorem fields_any (fs : List (Int × Int)) (fa : Option Addr) (fcap : Nat) (w : World) (hf : FieldsIn w fa fs fcap) (hn : fs.length ≤ 60) : Calls Try.prog 8 #[.slice fa fs.length fcap] w (FieldsPost fs w) := by
  have HF := Lib.hid hf
  obtain ⟨E, hE⟩ := elem2
  have HE := Lib.hid hE
  have HOK := Lib.hid (show ∀ vo vb (ws : List Int) (hw : fs.all fitF = true → ws = encs fs) (S : Piles w [⟨36, 2, vo, fs.length, fcells fs⟩, ⟨5, 1, vb, ws.length, ws.map (Value.int .u8)⟩]), FieldsPost fs w (.returned (.tuple #[vo, vb, .bool (fs.all fitF)])) S.w from fun vo vb ws hw S => ⟨vo, vb, rfl, ws, hw, S, rfl⟩)
  obtain ⟨Q, hQ⟩ : ∃ Q, Q = FieldsPost fs w := ⟨_, rfl⟩
  rw [← hQ] at HOK ⊢
  obtain ⟨N, hN⟩ : ∃ N, N = fs.length := ⟨_, rfl⟩
  rw [← hN] at hn HOK ⊢
  have HN := Lib.hid hN
  clear hf hQ hN hE
  go_enter Try.func8, Try.ntmps8
  go_wp2
  go_loopw [5, 6, 7, 9, 12] (fun vo vb t _ i wr => ∃ k : Nat, k ≤ N ∧ i = .int .i64 k ∧ t = .bool ((fs.take k).all fitF) ∧ ∃ ws : List Int, Hid (((fs.take k).all fitF = true → ws = encs (fs.take k)) ∧ ws.length ≤ 8 * k) ∧
    ∃ m : Nat, Hid (m = ws.length) ∧ ∃ S : Piles w [⟨36, 2, vo, k, fcells (fs.take k)⟩, ⟨5, 1, vb, m, ws.map (Value.int .u8)⟩], wr = S.w) (fun _ _ _ _ i _ => N - (intOf i).toNat)
  case atStart => exact ⟨0, by omega, rfl, rfl, [], Lib.hid ⟨fun _ => by simp [encs], by simp⟩, 0, Lib.hid rfl, ⟨w, Below.refl _ _, all2 (World.ownsRow_nil _ w.heap.size 36 2) (World.ownsRow_nil _ w.heap.size 5 1), by simp [ApartV, Value.ownBlock]⟩, rfl⟩
  case round =>
    obtain ⟨k, hk, rfl, rfl, ws, hws, m, hm, S, rfl⟩ := hrel
    by_cases hlt : k < N
    · obtain ⟨f, hfk⟩ : ∃ f, fs[k]? = some f := ⟨_, List.getElem?_eq_getElem (by rw [← HN.out]; exact hlt)⟩
      obtain ⟨b, o, rfl, x0, x1⟩ := (HF.out.below S.below).at hfk
      obtain ⟨hv, hz⟩ := HF.out.ok _ (List.mem_of_getElem? hfk)
      have HFK := Lib.hid hfk
      have HTB := Lib.hid (all_takeB hfk)
      have HM8 := Lib.hid (show m ≤ 8 * k by rw [hm.out]; exact hws.out.2)
      obtain ⟨v, z⟩ := f
      simp only at x0 x1 hv hz
      obtain ⟨S1, hS1⟩ : ∃ S1 : Piles w [lRow S.w.heap.size (v, z), ⟨36, 2, u5, k, fcells (fs.take k)⟩, ⟨5, 1, u6, m, ws.map (Value.int .u8)⟩], S.w.alloc (.cells #[.int .u64 v, .int .i64 z] 54) = S1.w :=
        S.box 54 #[.int .u64 v, .int .i64 z] 2 rfl
      obtain ⟨A5, C5, h5, -⟩ := S.view (r := ⟨36, 2, u5, k, fcells (fs.take k)⟩) (by simp)
      obtain ⟨hml, A6, C6, rfl, -⟩ := S.bytes (v := u6) (n := m) (l := ws) (by simp)
      simp only at h5
      subst h5
      have HSZ := Lib.hid (show S.w.heap.size + 1 = S1.w.heap.size by rw [← hS1]; simp)
      have HS1 := Lib.hid hS1
      have HEB := Lib.hid (show (k + 1) * E.bytes ≤ 140737488355328 by rw [HE.out]; omega)
      have HM63 := Lib.hid (show k + 1 ≤ maxLen by unfold maxLen; omega)
      have hfit := rfits_any v z
      clear hfk hS1 hml
      cases hall : (fs.take k).all fitF with
      | true =>
        go_wp2_with (rw [HS1.out]; refine wpList_append_two E S1 (.int .u64 v) (.int .i64 z) rfl rfl (.tmp 16) (.tmp 18) rfl rfl rfl _ HSZ.out rfl HM63.out HEB.out ?_; intro v2 S2; have d0 := (S2.boxCells (b := S.w.heap.size) (t := 54) (size := 2) (xs := [.int .u64 v, .int .i64 z]) (by simp)).2 0 _ rfl; have d1 := (S2.boxCells (b := S.w.heap.size) (t := 54) (size := 2) (xs := [.int .u64 v, .int .i64 z]) (by simp)).2 1 _ rfl)
        refine (Piles.call (S := S2) (hfit _ hv)).mono ?_
        rintro e _ ⟨rfl, S3, rfl⟩
        clear hfit d0 d1
        cases hft : fitB v z with
        | true =>
          have hz8 := fitB_size hft
          obtain ⟨_, A7, C7, h7, hwb⟩ := S3.bytes (v := .slice A6 m C6) (n := m) (l := ws) (by simp)
          simp only [Value.slice.injEq, true_and] at h7
          obtain ⟨rfl, rfl⟩ := h7
          have hap := rappend_any ws A6 C6 v z.toNat S3.w hwb (by rw [← hm.out]; have := HM8.out; omega) (by omega) hv
          rw [← hm.out, Int.toNat_of_nonneg (by omega)] at hap
          have d0 := (S3.boxCells (b := S.w.heap.size) (t := 54) (size := 2) (xs := [.int .u64 v, .int .i64 z]) (by simp)).2 0 _ rfl
          have d1 := (S3.boxCells (b := S.w.heap.size) (t := 54) (size := 2) (xs := [.int .u64 v, .int .i64 z]) (by simp)).2 1 _ rfl
          have HFT := Lib.hid (show fitF (v, z) = true from hft)
          clear hft hwb
          go_wp2_with fail
          refine hap.mono ?_
          rintro e _ ⟨v3, rfl, s4, rfl⟩
          clear hap d0 d1
          obtain ⟨S4, hS4⟩ := S3.made s4
          rw [hS4]
          have HS4 := Lib.hid hS4
          clear hS4
          go_wp2
          go_roundw
          case rel =>
            have hlen : ((ws ++ enc1 v z.toNat).map (Value.int .u8)).length = (ws ++ enc1 v z.toNat).length := List.length_map _
            have hle : (ws ++ enc1 v z.toNat).length ≤ 8 * (k + 1) := by rw [List.length_append, digs_length]; have := hws.out.2; omega
            have hws2 : ws = encs (fs.take k) := hws.out.1 hall
            obtain ⟨S5, hS5⟩ := S4.conv (rs2 := [⟨36, 2, v2, k + 1, fcells (fs.take (k + 1))⟩, ⟨5, 1, v3, (ws ++ enc1 v z.toNat).length, (ws ++ enc1 v z.toNat).map (Value.int .u8)⟩, lRow S.w.heap.size (v, z), ⟨5, 1, .slice A6 m C6, m, ws.map (Value.int .u8)⟩])
              [⟨5, 1, v3, (ws ++ enc1 v z.toNat).length, (ws ++ enc1 v z.toNat).map (Value.int .u8)⟩, ⟨36, 2, v2, k + 1, fcells (fs.take (k + 1))⟩, lRow S.w.heap.size (v, z), ⟨5, 1, .slice A6 m C6, m, ws.map (Value.int .u8)⟩] (by rw [hlen, fcells_snoc HFK.out]) (List.Perm.swap _ _ _)
            obtain ⟨S6, hS6⟩ := S5.sub (rs' := [⟨36, 2, v2, k + 1, fcells (fs.take (k + 1))⟩, ⟨5, 1, v3, (ws ++ enc1 v z.toNat).length, (ws ++ enc1 v z.toNat).map (Value.int .u8)⟩]) (by simp)
            exact ⟨k + 1, by omega, by go_num, by rw [HTB.out, hall, HFT.out]; rfl, ws ++ enc1 v z.toNat, Lib.hid ⟨fun _ => by rw [encs_snoc HFK.out, hws2], hle⟩, _, Lib.hid rfl, S6, hS5.trans hS6⟩
          case measure => simp [intOf]; omega
        | false =>
          have HFT := Lib.hid (show fitF (v, z) = false from hft)
          clear hft
          go_wp2
          go_roundw
          case rel =>
            obtain ⟨S5, hS5⟩ := S3.conv (rs2 := [⟨36, 2, v2, k + 1, fcells (fs.take (k + 1))⟩, lRow S.w.heap.size (v, z), ⟨5, 1, .slice A6 m C6, m, ws.map (Value.int .u8)⟩]) _ (by rw [fcells_snoc HFK.out]) (List.Perm.refl _)
            obtain ⟨S6, hS6⟩ := S5.sub (rs' := [⟨36, 2, v2, k + 1, fcells (fs.take (k + 1))⟩, ⟨5, 1, .slice A6 m C6, m, ws.map (Value.int .u8)⟩]) (by simp)
            exact ⟨k + 1, by omega, by go_num, by rw [HTB.out, hall, HFT.out]; rfl, ws, Lib.hid ⟨fun h => by rw [HTB.out, HFT.out] at h; simp at h, by have := hws.out.2; omega⟩, m, hm, S6, hS5.trans hS6⟩
          case measure => simp [intOf]; omega
      | false =>
        go_wp2_with (rw [HS1.out]; refine wpList_append_two E S1 (.int .u64 v) (.int .i64 z) rfl rfl (.tmp 16) (.tmp 18) rfl rfl rfl _ HSZ.out rfl HM63.out HEB.out ?_; intro v2 S2)
        go_roundw
        case rel =>
          obtain ⟨S5, hS5⟩ := S2.conv (rs2 := [⟨36, 2, v2, k + 1, fcells (fs.take (k + 1))⟩, lRow S.w.heap.size (v, z), ⟨5, 1, .slice A6 m C6, m, ws.map (Value.int .u8)⟩]) _ (by rw [fcells_snoc HFK.out]) (List.Perm.refl _)
          obtain ⟨S6, hS6⟩ := S5.sub (rs' := [⟨36, 2, v2, k + 1, fcells (fs.take (k + 1))⟩, ⟨5, 1, .slice A6 m C6, m, ws.map (Value.int .u8)⟩]) (by simp)
          exact ⟨k + 1, by omega, by go_num, by rw [HTB.out, hall]; rfl, ws, Lib.hid ⟨fun h => by rw [HTB.out, hall] at h; simp at h, by have := hws.out.2; omega⟩, m, hm, S6, hS5.trans hS6⟩
        case measure => simp [intOf]; omega
    · obtain rfl : N = k := by omega
      have HTK := Lib.hid (show fs.take N = fs by rw [HN.out, List.take_length])
      obtain ⟨S2, hS2⟩ := S.conv (rs2 := [⟨36, 2, u5, N, fcells fs⟩, ⟨5, 1, u6, ws.length, ws.map (Value.int .u8)⟩]) _ (by rw [HTK.out, ← hm.out]) (List.Perm.refl _)
      have HFIN := Lib.hid (HOK.out u5 u6 ws (fun h => by have := hws.out.1; rw [HTK.out] at this; exact this h) S2)
      have HS2 := Lib.hid hS2
      clear hS2
      go_wp2
      rw [HS2.out]
      refine bodyPost_ret (v := .tuple #[u5, u6, .bool ((fs.take N).all fitF)]) (by simp [results, Try.results8, go_sem]) rfl (by rw [HTK.out]; exact HFIN.out)

/-- What its caller takes of it. -/
structure FieldsOut (fs : List (Int × Int)) (Z : Nat) (all : Bool) (ws : List Int) (fA : Option Addr) (fC : Nat) (wA : Option Addr) (wC : Nat) (w w' : World) : Prop where
  z : Z = ws.length
  all : all = fs.all fitF
  want : fs.all fitF = true → ws = encs fs
  f : FieldsIn w' fA fs fC
  b : BytesIn w' wA ws wC
  below : Below w.heap.size w w'
theorem fields_out (fs : List (Int × Int)) (fa : Option Addr) (fcap N : Nat) (w : World) (hf : FieldsIn w fa fs fcap) (hN : N = fs.length) (hn : N ≤ 60) : Calls Try.prog 8 #[.slice fa N fcap] w (fun e w' => ∃ (Z : Nat) (all : Bool) (ws : List Int) (fA : Option Addr) (fC : Nat) (wA : Option Addr) (wC : Nat), e = .returned (.tuple #[.slice fA N fC, .slice wA Z wC, .bool all]) ∧ Hid (FieldsOut fs Z all ws fA fC wA wC w w')) := by
  subst hN
  refine (fields_any fs fa fcap w hf hn).mono ?_
  rintro e _ ⟨vo, vb, rfl, ws, hws, S, rfl⟩
  obtain ⟨fA, fC, hvo, hFW⟩ := row_fields (S.rows _ List.mem_cons_self) rfl hf.ok
  obtain ⟨-, wA, wC, hvb, hWW⟩ := S.bytes (v := vb) (n := ws.length) (l := ws) (by simp)
  simp only at hvo
  subst hvo hvb
  exact ⟨ws.length, _, ws, fA, fC, wA, wC, rfl, rfl, rfl, hws, hFW, hWW, S.below⟩
end Go.Proofs.Ytclalbiggnalfaa
