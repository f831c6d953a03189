/- Sort of the reference: an insertion, with three appends. -/
import Derived.BigQuiet
import Derived.LoopTactic
import Derived.Test.YtgmjppjgbalapaaE09q15
namespace Go.Proofs.Ytgmjppjgbalapaa
open Go.RowKit Go.Shelf Go.Proofs.Ytgmjppjgbalapaa.Plain01
set_option linter.unusedVariables false
set_option linter.unusedSimpArgs false

/-- Rows with those cells keep them. -/
def ExtR (base at_ : Nat) (X Y : List Value) (W W' : World) : Prop := ∀ v n xs, (n = 0 ∧ xs = [] ∨ n = at_ ∧ xs = X ∨ n = 1 ∧ xs = Y ∨ n = at_ + 1 ∧ xs = X ++ Y) → W.ownsRow base 26 5 v n xs → W'.ownsRow base 26 5 v n xs
theorem extR_below {base at_ : Nat} {X Y : List Value} {W W' : World} (h : Below W.heap.size W W') : ExtR base at_ X Y W W' := fun v n xs _ ho => own_later ho h

theorem append_ext {W0 W : World} (hC : Below W0.heap.size W0 W) {at_ : Nat} {X Y : List Value} {v : Value} (hv : W.ownsRow W0.heap.size 26 5 v at_ X) (ad : Addr) (c : Nat) (hY : Y.length = 1 * 5) (hnews : ∀ j u, Y[j]? = some u → W.cell? (ad.add j) = some u) (h1 : ∀ u ∈ Y, u.oneCell' = true) (hm : at_ ≤ 1000000) (ty : TypeId) :
    ∃ v' W', (Builtin.append_ #[22, 22] ty #[v, .slice (some ad) 1 c]).run Try.prog W = .ok v' W' ∧ W'.ownsRow W0.heap.size 26 5 v' (at_ + 1) (X ++ Y) ∧ Below W0.heap.size W0 W' ∧ ExtR W0.heap.size at_ X Y W W' := by
  obtain ⟨E, hE⟩ := elem5
  obtain ⟨v', W', hrun, ho, hg, _⟩ := run_append_own (P := Try.prog) W W0.heap.size 22 ty 26 E.i E.z 5 E.bytes E.ht E.hi E.hz E.hsize E.hby E.hzs E.hsz v at_ X hv ad 1 c Y hY hnews h1 (by unfold maxLen; omega) (by rw [hE]; omega) hC.size
  refine ⟨v', W', hrun, ho, hC.grown hg hC.size (fun k hk => (hv.lt k hk).1), ?_⟩
  rcases hv.2 with ⟨rfl, h0⟩ | ⟨g, cap, cur, rfl, hbg, hgc, hnc, hcm, hcs, htake⟩
  · exact extR_below ((Below.refl _ W).grown hg (Nat.le_refl _) (fun k hk => by cases hk))
  · by_cases hroom : at_ + 1 ≤ cap
    · have hl1 : Y.length = 1 * E.i.size := by rw [E.hsize, hY]
      have hr := run_append_room (P := Try.prog) W 22 ty 26 E.i E.ht E.hi g at_ cap cur hgc ad 1 c Y hl1 hnews h1 hroom (by rw [hl1, hcs, E.hsize, ← Nat.add_mul]; exact Nat.mul_le_mul_right _ hroom)
      rw [hr] at hrun
      injection hrun with h2 h3
      subst h3
      rw [E.hsize]
      intro u n xs hn hu
      refine ⟨hu.1, ?_⟩
      rcases hu.2 with h | ⟨g2, cap2, cur2, e1, e2, e3, e4, e5, e6, e7⟩
      · exact .inl h
      · right
        by_cases hgg : g2 = g
        · subst hgg
          obtain ⟨rfl, _⟩ : cur2 = cur ∧ True := by
            rw [hgc] at e3
            simp only [Option.some.injEq, Obj.cells.injEq] at e3
            exact ⟨e3.1.symm, trivial⟩
          have hxl : X.length = at_ * 5 := hv.1
          have hcl : cur2.toList.length = cap2 * 5 := by simpa using e6
          have hcc : cap2 = cap := by omega
          refine ⟨g2, cap2, _, e1, e2, setRow_heap _ _ _ _ _ _ e3, e4, e5, ?_, ?_⟩
          · simp only [List.size_toArray, List.length_append, List.length_take, List.length_drop, hY, hcl]
            omega
          · simp only [htake]
            rcases hn with ⟨rfl, rfl⟩ | ⟨rfl, rfl⟩ | ⟨rfl, rfl⟩ | ⟨rfl, rfl⟩
            · simp
            · rw [List.append_assoc, ← hxl, List.take_left]
            · by_cases ha : at_ = 0
              · subst ha
                have : X = [] := List.eq_nil_of_length_eq_zero (by omega)
                subst this
                rw [List.nil_append, ← hY, List.take_left]
              · rw [List.append_assoc, List.take_append_of_le_length (by omega), ← htake, List.take_take, Nat.min_eq_left (by omega)]
                exact e7
            · have : (at_ + 1) * 5 = (X ++ Y).length := by rw [List.length_append, hxl, hY]; omega
              rw [this, List.take_left]
        · exact ⟨g2, cap2, cur2, e1, e2, (setRow_other _ _ _ _ hgg).trans e3, e4, e5, e6, e7⟩
    · refine extR_below ?_
      have hl1 : Y.length = 1 * E.i.size := by rw [E.hsize, hY]
      have hr := run_append_grow (P := Try.prog) W 22 ty 26 E.i E.z E.ht E.hi E.hz ⟨g, 0, none⟩ at_ cap X (by rw [E.hsize]; exact hv.1) (hv.cells (g := g) rfl) ad 1 c Y hl1 hnews (by omega) (by omega) (growslice_fits (by omega) (by rw [E.hby, hE]; omega))
      rw [hr] at hrun
      injection hrun with h2 h3
      subst h3
      exact (Below.refl _ W).drew.alloc (Nat.le_refl _) _

/-- The same of a slice that may be nil. -/
theorem run_append_freshO {W : World} {base : Nat} (hbase : base ≤ W.heap.size) {v : Value} (hv : IsE5 base v W) (sp : Option Addr) (m c : Nat) (news : List Value) (hl : news.length = m * 5) (hnil : sp = none → m = 0) (hnews : ∀ ad, sp = some ad → ∀ j u, news[j]? = some u → W.cell? (ad.add j) = some u) (h1 : ∀ u ∈ news, u.oneCell' = true) (hm : m ≤ 1000000) (ty : TypeId) :
    ∃ v' W', (Builtin.append_ #[22, 22] ty #[v, .slice sp m c]).run Try.prog W = .ok v' W' ∧ IsRow base m news v' W' ∧ Below W.heap.size W W' := by
  cases sp with
  | some ad => exact run_append_fresh5 hbase hv ad m c news hl (hnews ad rfl) h1 hm ty
  | none =>
    obtain ⟨E, hE⟩ := elem5
    obtain ⟨g, rfl, ho⟩ := hv
    have hm0 := hnil rfl
    subst hm0
    obtain rfl := List.eq_nil_of_length_eq_zero (by omega)
    exact ⟨_, _, run_append_nothing (P := Try.prog) W 22 22 ty 26 E.i E.ht E.hi _ 0 0 (Nat.le_refl _) _ (_root_.Go.Src.ofNil (P := Try.prog) (w := W) (size := E.i.size) Try.underlying22 c), ho, Below.refl _ _⟩
theorem cutO_h {a : Option Addr} {L cap : Nat} (n : Nat) (hn : n ≤ L) (hc : L ≤ cap) (hnil : a = none → cap = 0) : ∃ A, (∀ W, (Instr.slice 22 (.slice a L cap) none (some (.int .i64 (n : Int))) none).run Try.prog W = .ok (.slice A n cap) W) ∧ (A = none → n = 0 ∧ cap = 0) ∧ ∀ b o, a = some ⟨b, o, none⟩ → A = some ⟨b, o, none⟩ := by
  refine ⟨if cap = 0 then a else a.map (·.add (0 * 5)), fun W => ?_, fun h => ?_, fun b o h => ?_⟩
  · rw [run_slice_h (P := Try.prog) W 22 a L cap (by kernel_rfl) .i64 (n : Int) (by omega) (by omega), size_cmd]
    simp only [Result.andThen_ok, sliced, Int.toNat_natCast, Nat.sub_zero]
  · by_cases h0 : cap = 0
    · omega
    · rw [if_neg h0] at h
      cases a with
      | none => have := hnil rfl; omega
      | some ad => cases h
  · subst h
    split <;> simp [Addr.add_mid]
theorem cutO_l {a : Option Addr} {L cap : Nat} (n : Nat) (hn : n ≤ L) (hc : L ≤ cap) (hnil : a = none → cap = 0) : ∃ A, (∀ W, (Instr.slice 22 (.slice a L cap) (some (.int .i64 (n : Int))) none none).run Try.prog W = .ok (.slice A (L - n) (cap - n)) W) ∧ (A = none → L - n = 0 ∧ cap - n = 0) ∧ ∀ b o, a = some ⟨b, o, none⟩ → n < L → A = some ⟨b, o + n * 5, none⟩ := by
  refine ⟨if cap = n then a else a.map (·.add (n * 5)), fun W => ?_, fun h => ?_, fun b o h hl => ?_⟩
  · rw [run_slice_l (P := Try.prog) W 22 a L cap (by kernel_rfl) .i64 (n : Int) (by omega) (by omega), size_cmd]
    simp only [Result.andThen_ok, sliced, Int.toNat_natCast]
  · by_cases h0 : cap = n
    · omega
    · rw [if_neg h0] at h
      cases a with
      | none => have := hnil rfl; omega
      | some ad => cases h
  · subst h
    rw [if_neg (by omega)]
    simp [Addr.add_mid]
theorem newsO_h {W : World} {a : Option Addr} {cap : Nat} {cs : List Cmd} (h : CmdsIn W a cs cap) {A : Option Addr} {n : Nat} (hn : n ≤ cs.length) (hA : ∀ b o, a = some ⟨b, o, none⟩ → A = some ⟨b, o, none⟩) : ∀ ad, A = some ad → ∀ (j : Nat) (u : Value), (flat5 (cs.take n))[j]? = some u → W.cell? (ad.add j) = some u := fun ad had j u hu => by
  by_cases h0 : 0 < cs.length
  · obtain ⟨b, o, ha, _⟩ := h.cells h0
    have := hA b o ha
    rw [had] at this
    cases this
    subst ha
    have := cmds_news h 0 n (by omega) j u (by simpa using hu)
    simpa using this
  · have : cs = [] := List.eq_nil_of_length_eq_zero (by omega)
    subst this
    simp [flat5] at hu
theorem newsO_l {W : World} {a : Option Addr} {cap : Nat} {cs : List Cmd} (h : CmdsIn W a cs cap) {A : Option Addr} {n : Nat} (hA : ∀ b o, a = some ⟨b, o, none⟩ → n < cs.length → A = some ⟨b, o + n * 5, none⟩) : ∀ ad, A = some ad → ∀ (j : Nat) (u : Value), (flat5 (cs.drop n))[j]? = some u → W.cell? (ad.add j) = some u := fun ad had j u hu => by
  by_cases h0 : n < cs.length
  · obtain ⟨b, o, ha, _⟩ := h.cells (by omega)
    have := hA b o ha h0
    rw [had] at this
    cases this
    subst ha
    refine cmds_news h n (cs.length - n) (by omega) j u ?_
    rw [List.take_of_length_le (by rw [List.length_drop]; omega)]
    exact hu
  · rw [List.drop_of_length_le (by omega)] at hu
    simp [flat5] at hu
/-- A literal of one command, as a row. -/
def IsLit (base : Nat) (c : Cmd) : Value → World → Prop := fun v w => ∃ B, v = .slice (some ⟨B, 0, none⟩) 1 1 ∧ w.ownsRow base 26 5 v 1 c.cells
theorem isLit_new {W : World} {base : Nat} (hb : base ≤ W.heap.size) (c : Cmd) : IsLit base c (.slice (some ⟨W.heap.size, 0, none⟩) 1 1) (W.alloc (.cells c.cells.toArray 26)) :=
  ⟨W.heap.size, rfl, rfl, .inr ⟨W.heap.size, 1, _, rfl, hb, heap_new W _ rfl, Nat.le_refl _, by unfold maxLen; omega, rfl, rfl⟩⟩

theorem stable_E5x (base j : Nat) (X Y : List Value) : Stable (ExtR base j X Y) (IsE5 base) := fun v w w' ⟨g, h1, h2⟩ hE => ⟨g, h1, hE _ 0 [] (.inl ⟨rfl, rfl⟩) h2⟩
theorem stable_rowx (base j : Nat) (X Y : List Value) : Stable (ExtR base j X Y) (IsRow base j X) := fun v w w' h hE => hE _ _ _ (.inr (.inl ⟨rfl, rfl⟩)) h
theorem stable_rowy (base j : Nat) (X Y : List Value) : Stable (ExtR base j X Y) (IsRow base (j + 1) (X ++ Y)) := fun v w w' h hE => hE _ _ _ (.inr (.inr (.inr ⟨rfl, rfl⟩))) h
theorem stable_lit (base j : Nat) (X : List Value) (c : Cmd) : Stable (ExtR base j X c.cells) (IsLit base c) := fun v w w' ⟨B, h1, h2⟩ hE => ⟨B, h1, hE _ _ _ (.inr (.inr (.inl ⟨rfl, rfl⟩))) h2⟩

def SortPost (cs : List Cmd) (w : World) (e : Ending) (w' : World) : Prop :=
  ∃ (a : Option Addr) (ls : List Cmd) (cap : Nat), e = .returned (.slice a ls.length cap) ∧ CmdsIn w' a ls cap ∧ ls.Perm cs ∧ Asc ls ∧ Below w.heap.size w w'

theorem perm_take_succ {cs out : List Cmd} {k : Nat} {c : Cmd} {j : Nat} (hc : cs[k]? = some c) (hp : out.Perm (cs.take k)) (hi : (out.take j ++ c :: out.drop j).Perm (c :: out)) : (out.take j ++ c :: out.drop j).Perm (cs.take (k + 1)) := by
  rw [List.take_add_one, hc]
  exact hi.trans ((hp.cons c).trans (List.perm_append_singleton c _).symm)

set_option maxRecDepth 100000 in
set_option maxHeartbeats 8000000 in
theorem rsort_any (ca : Option Addr) (cs : List Cmd) (ccap : Nat) (w : World) (h : CmdsIn w ca cs ccap) (hL : cs.length ≤ 1000000) :
    Calls Try.prog 38 #[.slice ca cs.length ccap] w (SortPost cs w) := by
  have hpost : Hid (∀ (a : Option Addr) (ls : List Cmd) (cap : Nat) (w' : World), CmdsIn w' a ls cap → ls.Perm cs → Asc ls → Below w.heap.size w w' → SortPost cs w (.returned (.slice a ls.length cap)) w') := Lib.hid fun a ls cap w' h1 h2 h3 h4 => ⟨a, ls, cap, rfl, h1, h2, h3, h4⟩
  have HC := Lib.hid h
  obtain ⟨L, hLe⟩ : ∃ L, L = cs.length := ⟨_, rfl⟩
  have HL := Lib.hid hLe
  have hLcap : L ≤ ccap := by rw [hLe]; exact h.len
  have hccap := h.capb
  rw [← hLe] at hL ⊢
  generalize SortPost cs w = POST at hpost ⊢
  clear h hLe
  go_enter Try.func38, Try.ntmps38
  go_wp2
  obtain ⟨s0, hs0⟩ : ∃ s : HeldW w [], w = s.w := ⟨HeldW.start w, rfl⟩
  go_loopw [3, 4, 5] (fun vo vi va wr => ∃ (k : Nat) (out : List Cmd) (ao : Option Addr) (capo : Nat), k ≤ L ∧ vi = .int .i64 k ∧ vo = .slice ao k capo ∧ ∃ s : HeldW w [], wr = s.w ∧ Hid (out.length = k ∧ Asc out ∧ out.Perm (cs.take k) ∧ CmdsIn s.w ao out capo)) (fun _ v _ _ => L - (intOf v).toNat)
  case atStart => exact ⟨0, [], none, 0, by omega, rfl, rfl, HeldW.start w, rfl, Lib.hid ⟨rfl, List.Pairwise.nil, by simp, by simp, by omega, fun h => by simp at h, fun c hc => by simp at hc, fun _ => rfl⟩⟩
  case round =>
    clear s0 hs0
    obtain ⟨k, out, ao, capo, hk, rfl, rfl, s, rfl, hout⟩ := hrel
    by_cases hlt : k < L
    · obtain ⟨x, hc⟩ : ∃ x, cs[k]? = some x := ⟨_, List.getElem?_eq_getElem (by rw [← HL.out]; exact hlt)⟩
      have HX := Lib.hid hc
      obtain ⟨b, oo, rfl, x0, x1, x2, x3, x4⟩ := HC.out.at hc
      clear hc x0 x1 x2 x3 x4
      have hkc : k ≤ capo := by have := hout.out.2.2.2.len; have := hout.out.1; omega
      have hcc := hout.out.2.2.2.capb
      -- BEGIN
      have HO := hout
      have HBW := Lib.hid s.below
      go_wp2_with fail
      generalize s.w = W1 at HO HBW hout ⊢
      clear hout
      go_loopw [5] (fun va wr => ∃ j : Nat, j ≤ k ∧ va = .int .i64 j ∧ Hid (∀ (i : Nat) (c' : Cmd), j ≤ i → out[i]? = some c' → x.t < c'.t) ∧ ∃ s2 : HeldW W1 [], wr = s2.w) (fun va _ => (intOf va).toNat)
      case atStart => exact ⟨k, Nat.le_refl _, rfl, Lib.hid (fun i c' hi hc' => by have := (List.getElem?_eq_some_iff.1 hc').1; have := HO.out.1; omega), HeldW.start W1, rfl⟩
      case round =>
        obtain ⟨j, hjk, rfl, hstop, s2, rfl⟩ := hrel
        have HS := hstop
        have x1 : ∀ s : HeldW W1 [], s.w.cell? ⟨b, oo + k * 5 + 1, none⟩ = some (.int .i64 x.t) := fun s => by
          obtain ⟨b', o', e, h⟩ := (HC.out.below (HBW.out.trans (s.below.mono HBW.out.size))).at HX.out
          simp only [Option.some.injEq, Addr.mk.injEq] at e
          obtain ⟨rfl, rfl, _⟩ := e
          exact h.2.1
        by_cases hj : 0 < j
        · obtain ⟨J, rfl⟩ : ∃ J, j = J + 1 := ⟨j - 1, by omega⟩
          obtain ⟨c', hc'⟩ : ∃ c', out[J]? = some c' := ⟨_, List.getElem?_eq_getElem (by rw [HO.out.1]; omega)⟩
          obtain ⟨b2, o2, rfl, y0, y1, y2, y3, y4⟩ := HO.out.2.2.2.at hc'
          have y1' : ∀ s : HeldW W1 [], s.w.cell? ⟨b2, o2 + J * 5 + 1, none⟩ = some (.int .i64 c'.t) := fun s => by
            obtain ⟨b', o', e, h⟩ := (HO.out.2.2.2.W s).at hc'
            simp only [Option.some.injEq, Addr.mk.injEq] at e
            obtain ⟨rfl, rfl, _⟩ := e
            exact h.2.1
          have HCJ := Lib.hid hc'
          clear y0 y1 y2 y3 y4 hstop hc' hj
          by_cases hcmp : x.t < c'.t
          · have HCMP := Lib.hid hcmp
            have hd : decide (x.t < c'.t) = true := decide_eq_true hcmp
            clear hcmp
            go_wp2_with fail
            refine wp_region_class _ _ (by kernel_rfl) (by kernel_rfl) s2.below s2.blocks (fun hne => ?_)
            repeat (go_big_quiet_step (fail))
            refine wpQuiet_nil ?_
            rintro _ ⟨s3, rfl⟩
            clear hne x1 y1' hd
            go_wp2
            go_roundw
            case rel => exact ⟨J, by omega, by go_num, Lib.hid (fun i c2 hi hc2 => by
              by_cases e : i = J
              · subst e
                rw [HCJ.out] at hc2
                cases hc2
                exact HCMP.out
              · exact HS.out i c2 (by omega) hc2), s3, rfl⟩
            case measure => simp [intOf]
          · have HCMP := Lib.hid hcmp
            have hd : decide (x.t < c'.t) = false := decide_eq_false hcmp
            have HLE : Hid (J + 1 = 0 ∨ ∃ c, out[J + 1 - 1]? = some c ∧ c.t ≤ x.t) := Lib.hid (.inr ⟨c', HCJ.out, by have := HCMP.out; omega⟩)
            clear hcmp
            go_wp2_with fail
            refine wp_region_class _ _ (by kernel_rfl) (by kernel_rfl) s2.below s2.blocks (fun hne => ?_)
            repeat (go_big_quiet_step (fail))
            refine wpQuiet_nil ?_
            rintro _ ⟨s3, rfl⟩
            clear hne x1 y1' hd
            go_wp2_with fail
            obtain ⟨j, hj⟩ : ∃ j : Nat, j = J + 1 := ⟨_, rfl⟩
            have hjc : (J : Int) + 1 = (j : Int) := by omega
            rw [hjc]
            rw [← hj] at HS HLE hjk
            clear hjc hj HCJ HCMP
            obtain ⟨ao, hao⟩ : ∃ ao, ao = some (⟨b2, o2, none⟩ : Addr) := ⟨_, rfl⟩
            rw [← hao] at HO ⊢
            clear hao
            have HB3 := Lib.hid s3.below
            have hcO : CmdsIn s3.w ao out capo := HO.out.2.2.2.W s3
            have hcC : CmdsIn s3.w (some ⟨b, oo, none⟩) cs ccap := HC.out.below (HBW.out.trans (s3.below.mono HBW.out.size))
            generalize s3.w = W3 at hcO hcC HB3 ⊢
            obtain ⟨A1, hA1, hA1n, hA1o⟩ := cutO_h (a := ao) (L := k) (cap := capo) j hjk hkc HO.out.2.2.2.nil
            obtain ⟨A2, hA2, hA2n, hA2o⟩ := cutO_l (a := ao) (L := k) (cap := capo) j hjk hkc HO.out.2.2.2.nil
            have HA1 := Lib.hid hA1
            have HA2 := Lib.hid hA2
            have hn1 : ∀ W, Below W3.heap.size W3 W → ∀ ad, A1 = some ad → ∀ (q : Nat) (u : Value), (flat5 (out.take j))[q]? = some u → W.cell? (ad.add q) = some u := fun W hW => newsO_h (hcO.below hW) (by rw [HO.out.1]; exact hjk) hA1o
            have hn2 : ∀ W, Below W3.heap.size W3 W → ∀ ad, A2 = some ad → ∀ (q : Nat) (u : Value), (flat5 (out.drop j))[q]? = some u → W.cell? (ad.add q) = some u := fun W hW => newsO_l (hcO.below hW) (fun b o h1 h2 => hA2o b o h1 (by rw [← HO.out.1]; exact h2))
            have hl1 : (flat5 (out.take j)).length = j * 5 := by rw [flat5_length, List.length_take, HO.out.1, Nat.min_eq_left hjk]
            have hl2 : (flat5 (out.drop j)).length = (k - j) * 5 := by rw [flat5_length, List.length_drop, HO.out.1]
            have hxc : ∀ W, Below W3.heap.size W3 W → W.cell? ⟨b, oo + k * 5, none⟩ = some (.int .i64 x.k) ∧ W.cell? ⟨b, oo + k * 5 + 1, none⟩ = some (.int .i64 x.t) ∧ W.cell? ⟨b, oo + k * 5 + 2, none⟩ = some (.int .i64 x.f) ∧ W.cell? ⟨b, oo + k * 5 + 3, none⟩ = some (.int .i64 x.n) ∧ W.cell? ⟨b, oo + k * 5 + 4, none⟩ = some (.slice x.a x.l.length x.cap) := fun W hW => by
              obtain ⟨b', o', e, h⟩ := (hcC.below hW).at HX.out
              simp only [Option.some.injEq, Addr.mk.injEq] at e
              obtain ⟨rfl, rfl, _⟩ := e
              exact h
            have HN1 := Lib.hid hn1
            have HN2 := Lib.hid hn2
            have HL1 := Lib.hid hl1
            have HL2 := Lib.hid hl2
            have HXC := Lib.hid hxc
            have HA1N := Lib.hid hA1n
            have HA2N := Lib.hid hA2n
            have HCO := Lib.hid hcO
            have HCC := Lib.hid hcC
            have hjm : j ≤ 1000000 := by omega
            clear hA1 hA2 hA1o hA2o hn1 hn2 hl1 hl2 hxc hA1n hA2n hcO hcC
            refine wp_region_looseT 14
              [IsE5 W3.heap.size, IsV (.slice ao k capo), IsV (.int .i64 j), IsV (.slice A1 j capo), IsRow W3.heap.size j (flat5 (out.take j)), IsV (.slice (some ⟨b, oo, none⟩) L ccap), IsV (.int .i64 k), IsV (.pointer (some ⟨b, oo + k * 5, none⟩)), IsV (cmdV x.k x.t x.f x.n (.slice x.a x.l.length x.cap)), IsLit W3.heap.size x, IsRow W3.heap.size (j + 1) (flat5 (out.take j) ++ x.cells), IsV (.slice ao k capo), IsV (.int .i64 j), IsV (.slice A2 (k - j) (capo - j))]
              [⟨32, [], []⟩, ⟨33, [], [3]⟩, ⟨34, [], [5]⟩, ⟨35, [(1, 33), (2, 34)], []⟩, ⟨36, [(0, 32), (3, 35)], []⟩, ⟨37, [], [0]⟩, ⟨38, [], [4]⟩, ⟨39, [(5, 37), (6, 38)], []⟩, ⟨40, [(7, 39)], []⟩, ⟨41, [(8, 40)], []⟩, ⟨42, [(4, 36), (9, 41)], []⟩, ⟨43, [], [3]⟩, ⟨44, [], [5]⟩, ⟨45, [(11, 43), (12, 44)], []⟩]
              (fun W => Below W3.heap.size W3 W) (ExtR W3.heap.size j (flat5 (out.take j)) x.cells) (by kernel_rfl) (by kernel_rfl) (by kernel_rfl) rfl rfl (Below.refl _ W3).drew ?_
              ⟨?_, ?_, ?_, ?_, ?_, ?_, ?_, ?_, ?_, ?_, ?_, ?_, ?_, ?_, trivial⟩ ?_
            · repeat (first | (intro _ h; cases h; done) | refine List.forall_mem_cons.2 ⟨stable_V _ _, ?_⟩ | refine List.forall_mem_cons.2 ⟨stable_E5x _ _ _ _, ?_⟩ | refine List.forall_mem_cons.2 ⟨stable_rowx _ _ _ _, ?_⟩ | refine List.forall_mem_cons.2 ⟨stable_lit _ _ _ _, ?_⟩ | refine List.forall_mem_cons.2 ⟨stable_rowy _ _ _ _, ?_⟩)
            · intro A W hC hd hx
              refine ⟨fun g hg => (by cases hg), ?_⟩
              clear hd
              have hE5 := isE5_new (W := W) (base := W3.heap.size) hC.size
              simp [go_sem, looseUpon, factOf]
              exact ⟨hE5, hC.alloc hC.size _, extR_below ((Below.refl _ W).alloc (Nat.le_refl _) _)⟩
            · intro A W hC hd hx
              have hk : ∀ v, A.eval (.const v) = v := fun _ => rfl
              have hy0 : A.eval (.tmp 3) = Value.slice ao k capo := hx 3 (by simp)
              clear hd
              generalize A.eval = ρ at hk hy0 ⊢
              simp [go_sem, looseUpon, factOf, hk, hy0]
              exact ⟨hC, extR_below (Below.refl _ _)⟩
            · intro A W hC hd hx
              have hk : ∀ v, A.eval (.const v) = v := fun _ => rfl
              have hy0 : A.eval (.tmp 5) = Value.int .i64 j := hx 5 (by simp)
              clear hd
              generalize A.eval = ρ at hk hy0 ⊢
              simp [go_sem, looseUpon, factOf, hk, hy0]
              exact ⟨hC, extR_below (Below.refl _ _)⟩
            · intro A W hC hd hx
              have hk : ∀ v, A.eval (.const v) = v := fun _ => rfl
              have c0 := HA1.out
              simp [factOf] at hd
              generalize A.eval = ρ at hd hk ⊢
              simp [go_sem, looseUpon, factOf, hd, hk, c0]
              exact ⟨hC, extR_below (Below.refl _ _)⟩
            · intro A W hC hd hx
              refine ⟨fun g hg => (by cases hg), ?_⟩
              simp [factOf] at hd
              obtain ⟨hd1, hd2⟩ := hd
              obtain ⟨v', W', hrun, hrow, hb⟩ := run_append_freshO (base := W3.heap.size) hC.size hd1 A1 j capo (flat5 (out.take j)) HL1.out (fun h => (HA1N.out h).1) (HN1.out W hC) (flat5_one _) hjm 22
              obtain ⟨p, hp, _⟩ := hd1
              rw [hp] at hrun
              generalize A.eval = ρ at hp hd2 ⊢
              simp [execOp, resolve, invoke, builtin, hp, hd2, hrun, looseUpon, factOf]
              exact ⟨hrow, hC.trans (hb.mono hC.size), extR_below hb⟩
            · intro A W hC hd hx
              have hk : ∀ v, A.eval (.const v) = v := fun _ => rfl
              have hy0 : A.eval (.tmp 0) = Value.slice (some ⟨b, oo, none⟩) L ccap := hx 0 (by simp)
              clear hd
              generalize A.eval = ρ at hk hy0 ⊢
              simp [go_sem, looseUpon, factOf, hk, hy0]
              exact ⟨hC, extR_below (Below.refl _ _)⟩
            · intro A W hC hd hx
              have hk : ∀ v, A.eval (.const v) = v := fun _ => rfl
              have hy0 : A.eval (.tmp 4) = Value.int .i64 k := hx 4 (by simp)
              clear hd
              generalize A.eval = ρ at hk hy0 ⊢
              simp [go_sem, looseUpon, factOf, hk, hy0]
              exact ⟨hC, extR_below (Below.refl _ _)⟩
            · intro A W hC hd hx
              have hk : ∀ v, A.eval (.const v) = v := fun _ => rfl
              have c0 := hlt
              simp [factOf] at hd
              generalize A.eval = ρ at hd hk ⊢
              simp [go_sem, looseUpon, factOf, hd, hk, c0]
              exact ⟨hC, extR_below (Below.refl _ _)⟩
            · intro A W hC hd hx
              have hk : ∀ v, A.eval (.const v) = v := fun _ => rfl
              have c0 := (HXC.out W hC).1
              have c1 := (HXC.out W hC).2.1
              have c2 := (HXC.out W hC).2.2.1
              have c3 := (HXC.out W hC).2.2.2.1
              have c4 := (HXC.out W hC).2.2.2.2
              simp [factOf] at hd
              generalize A.eval = ρ at hd hk ⊢
              simp [go_sem, looseUpon, factOf, hd, hk, c0, c1, c2, c3, c4]
              exact ⟨hC, extR_below (Below.refl _ _)⟩
            · intro A W hC hd hx
              refine ⟨fun g hg => (by cases hg), ?_⟩
              simp [factOf] at hd
              have hlit := isLit_new (W := W) (base := W3.heap.size) hC.size x
              generalize A.eval = ρ at hd ⊢
              simp [go_sem, looseUpon, factOf, hd]
              exact ⟨hlit, hC.alloc hC.size _, extR_below ((Below.refl _ W).alloc (Nat.le_refl _) _)⟩
            · intro A W hC hd hx
              refine ⟨fun g hg => (by cases hg), ?_⟩
              simp [factOf] at hd
              obtain ⟨hd1, B5, hd2, hd3⟩ := hd
              obtain ⟨v', W', hrun, hrow, hb, hext⟩ := append_ext (W0 := W3) hC hd1 ⟨B5, 0, none⟩ 1 rfl (hd3.cells (g := B5) (by rw [hd2]; rfl)) (flat5_one [x]) hjm 22
              generalize A.eval = ρ at hd1 hd2 hrun ⊢
              simp [execOp, resolve, invoke, builtin, hd2, hrun, looseUpon, factOf]
              exact ⟨hrow, hb, hext⟩
            · intro A W hC hd hx
              have hk : ∀ v, A.eval (.const v) = v := fun _ => rfl
              have hy0 : A.eval (.tmp 3) = Value.slice ao k capo := hx 3 (by simp)
              clear hd
              generalize A.eval = ρ at hk hy0 ⊢
              simp [go_sem, looseUpon, factOf, hk, hy0]
              exact ⟨hC, extR_below (Below.refl _ _)⟩
            · intro A W hC hd hx
              have hk : ∀ v, A.eval (.const v) = v := fun _ => rfl
              have hy0 : A.eval (.tmp 5) = Value.int .i64 j := hx 5 (by simp)
              clear hd
              generalize A.eval = ρ at hk hy0 ⊢
              simp [go_sem, looseUpon, factOf, hk, hy0]
              exact ⟨hC, extR_below (Below.refl _ _)⟩
            · intro A W hC hd hx
              have hk : ∀ v, A.eval (.const v) = v := fun _ => rfl
              have c0 := HA2.out
              simp [factOf] at hd
              generalize A.eval = ρ at hd hk ⊢
              simp [go_sem, looseUpon, factOf, hd, hk, c0]
              exact ⟨hC, extR_below (Below.refl _ _)⟩
            · intro W hC
              simp only [ends]
              rintro _ ⟨g5, rfl, _⟩ _ rfl _ rfl _ rfl v36 _ _ rfl _ rfl _ rfl _ rfl _ ⟨B5, rfl, _⟩ v42 hrow _ rfl _ rfl _ rfl
              simp only [putAll, List.zip_cons_cons, List.zip_nil_left, List.foldl_cons, List.foldl_nil, Act.put, List.setIfInBounds_toArray, List.set_cons_succ, List.set_cons_zero, List.drop_succ_cons, List.drop_zero]
              obtain ⟨P0, hP0⟩ : ∃ P0 : Piles W3 [⟨26, 5, v42, j + 1, flat5 (out.take j) ++ x.cells⟩], W = P0.w := ⟨⟨W, hC, all1 hrow, by simp⟩, rfl⟩
              have hN2 := HN2.out W hC
              rw [hP0] at hN2
              rw [hP0]
              clear hP0 hrow hC
              obtain ⟨E, hE⟩ := elem5
              refine wpList_append_pilesS E P0 (.tmp 42) (.tmp 45) rfl rfl rfl A2 (k - j) (capo - j) (flat5 (out.drop j)) HL2.out rfl HA2N.out hN2 (flat5_one _) (by unfold maxLen; omega) (by rw [hE]; omega) (fun v7 S7 => ?_)
              have hrow7 := S7.rows _ List.mem_cons_self
              have hins := insert_asc (out := out) (x := x) (at_ := j) HO.out.2.1 (by rw [HO.out.1]; exact hjk) HS.out HLE.out
              obtain ⟨ns, hns⟩ : ∃ ns, ns = out.take j ++ x :: out.drop j := ⟨_, rfl⟩
              have hnl : ns.length = k + 1 := by rw [hns, List.length_append, List.length_cons, List.length_take, List.length_drop, HO.out.1, Nat.min_eq_left hjk]; omega
              have hfl : flat5 ns = flat5 (out.take j) ++ x.cells ++ flat5 (out.drop j) := by rw [hns, flat5_append, show flat5 (x :: out.drop j) = x.cells ++ flat5 (out.drop j) from rfl, List.append_assoc]
              have hb7 : Below W1.heap.size W1 S7.w := HB3.out.trans (S7.below.mono HB3.out.size)
              have hb8 : Below w.heap.size w S7.w := HBW.out.trans (hb7.mono HBW.out.size)
              obtain ⟨a7, cap7, rfl, hc7⟩ := row_cmds (W := S7.w) (base := W3.heap.size) (n := j + 1 + (k - j)) (v := v7) (cs := ns) (by rw [hfl]; exact hrow7) (by omega) (fun c hc => by
                rw [hns] at hc
                rcases List.mem_append.1 hc with hc | hc
                · exact (HO.out.2.2.2.ok c (List.mem_of_mem_take hc)).below hb7
                · rcases List.mem_cons.1 hc with rfl | hc
                  · exact (HC.out.ok c (List.mem_of_getElem? HX.out)).below hb8
                  · exact (HO.out.2.2.2.ok c (List.mem_of_mem_drop hc)).below hb7)
              obtain ⟨T, hT⟩ : ∃ T : HeldW w [], S7.w = T.w := ⟨⟨S7.w, hb8, by simp⟩, rfl⟩
              have HF : Hid (ns.length = k + 1 ∧ Asc ns ∧ ns.Perm (cs.take (k + 1)) ∧ CmdsIn T.w a7 ns cap7) := Lib.hid ⟨hnl, by rw [hns]; exact hins.1, by rw [hns]; exact perm_take_succ HX.out HO.out.2.2.1 hins.2, by rw [← hT]; exact hc7⟩
              rw [hT, hnl]
              clear hT hnl hns hfl hb7 hb8 hc7 hins hrow7 P0 hN2 S7
              go_wp2
              go_roundw
              case rel => exact ⟨k + 1, ns, a7, cap7, by omega, by go_num, rfl, T, rfl, HF⟩
              case measure => simp [intOf]; omega
        · have hd : decide (0 < (j : Int)) = false := by simp; omega
          have HLE : Hid (j = 0 ∨ ∃ c, out[j - 1]? = some c ∧ c.t ≤ x.t) := Lib.hid (.inl (by omega))
          have hdn : decide (0 < j) = false := decide_eq_false hj
          clear hstop
          go_wp2_with fail
          refine wp_region_class _ _ (by kernel_rfl) (by kernel_rfl) s2.below s2.blocks (fun hne => ?_)
          repeat (go_big_quiet_step (fail))
          refine wpQuiet_nil ?_
          rintro _ ⟨s3, rfl⟩
          clear hne x1 hd
          go_wp2_with fail
          have HB3 := Lib.hid s3.below
          have hcO : CmdsIn s3.w ao out capo := HO.out.2.2.2.W s3
          have hcC : CmdsIn s3.w (some ⟨b, oo, none⟩) cs ccap := HC.out.below (HBW.out.trans (s3.below.mono HBW.out.size))
          generalize s3.w = W3 at hcO hcC HB3 ⊢
          obtain ⟨A1, hA1, hA1n, hA1o⟩ := cutO_h (a := ao) (L := k) (cap := capo) j hjk hkc HO.out.2.2.2.nil
          obtain ⟨A2, hA2, hA2n, hA2o⟩ := cutO_l (a := ao) (L := k) (cap := capo) j hjk hkc HO.out.2.2.2.nil
          have HA1 := Lib.hid hA1
          have HA2 := Lib.hid hA2
          have hn1 : ∀ W, Below W3.heap.size W3 W → ∀ ad, A1 = some ad → ∀ (q : Nat) (u : Value), (flat5 (out.take j))[q]? = some u → W.cell? (ad.add q) = some u := fun W hW => newsO_h (hcO.below hW) (by rw [HO.out.1]; exact hjk) hA1o
          have hn2 : ∀ W, Below W3.heap.size W3 W → ∀ ad, A2 = some ad → ∀ (q : Nat) (u : Value), (flat5 (out.drop j))[q]? = some u → W.cell? (ad.add q) = some u := fun W hW => newsO_l (hcO.below hW) (fun b o h1 h2 => hA2o b o h1 (by rw [← HO.out.1]; exact h2))
          have hl1 : (flat5 (out.take j)).length = j * 5 := by rw [flat5_length, List.length_take, HO.out.1, Nat.min_eq_left hjk]
          have hl2 : (flat5 (out.drop j)).length = (k - j) * 5 := by rw [flat5_length, List.length_drop, HO.out.1]
          have hxc : ∀ W, Below W3.heap.size W3 W → W.cell? ⟨b, oo + k * 5, none⟩ = some (.int .i64 x.k) ∧ W.cell? ⟨b, oo + k * 5 + 1, none⟩ = some (.int .i64 x.t) ∧ W.cell? ⟨b, oo + k * 5 + 2, none⟩ = some (.int .i64 x.f) ∧ W.cell? ⟨b, oo + k * 5 + 3, none⟩ = some (.int .i64 x.n) ∧ W.cell? ⟨b, oo + k * 5 + 4, none⟩ = some (.slice x.a x.l.length x.cap) := fun W hW => by
            obtain ⟨b', o', e, h⟩ := (hcC.below hW).at HX.out
            simp only [Option.some.injEq, Addr.mk.injEq] at e
            obtain ⟨rfl, rfl, _⟩ := e
            exact h
          have HN1 := Lib.hid hn1
          have HN2 := Lib.hid hn2
          have HL1 := Lib.hid hl1
          have HL2 := Lib.hid hl2
          have HXC := Lib.hid hxc
          have HA1N := Lib.hid hA1n
          have HA2N := Lib.hid hA2n
          have HCO := Lib.hid hcO
          have HCC := Lib.hid hcC
          have hjm : j ≤ 1000000 := by omega
          clear hA1 hA2 hA1o hA2o hn1 hn2 hl1 hl2 hxc hA1n hA2n hcO hcC
          refine wp_region_looseT 14
            [IsE5 W3.heap.size, IsV (.slice ao k capo), IsV (.int .i64 j), IsV (.slice A1 j capo), IsRow W3.heap.size j (flat5 (out.take j)), IsV (.slice (some ⟨b, oo, none⟩) L ccap), IsV (.int .i64 k), IsV (.pointer (some ⟨b, oo + k * 5, none⟩)), IsV (cmdV x.k x.t x.f x.n (.slice x.a x.l.length x.cap)), IsLit W3.heap.size x, IsRow W3.heap.size (j + 1) (flat5 (out.take j) ++ x.cells), IsV (.slice ao k capo), IsV (.int .i64 j), IsV (.slice A2 (k - j) (capo - j))]
            [⟨32, [], []⟩, ⟨33, [], [3]⟩, ⟨34, [], [5]⟩, ⟨35, [(1, 33), (2, 34)], []⟩, ⟨36, [(0, 32), (3, 35)], []⟩, ⟨37, [], [0]⟩, ⟨38, [], [4]⟩, ⟨39, [(5, 37), (6, 38)], []⟩, ⟨40, [(7, 39)], []⟩, ⟨41, [(8, 40)], []⟩, ⟨42, [(4, 36), (9, 41)], []⟩, ⟨43, [], [3]⟩, ⟨44, [], [5]⟩, ⟨45, [(11, 43), (12, 44)], []⟩]
            (fun W => Below W3.heap.size W3 W) (ExtR W3.heap.size j (flat5 (out.take j)) x.cells) (by kernel_rfl) (by kernel_rfl) (by kernel_rfl) rfl rfl (Below.refl _ W3).drew ?_
            ⟨?_, ?_, ?_, ?_, ?_, ?_, ?_, ?_, ?_, ?_, ?_, ?_, ?_, ?_, trivial⟩ ?_
          · repeat (first | (intro _ h; cases h; done) | refine List.forall_mem_cons.2 ⟨stable_V _ _, ?_⟩ | refine List.forall_mem_cons.2 ⟨stable_E5x _ _ _ _, ?_⟩ | refine List.forall_mem_cons.2 ⟨stable_rowx _ _ _ _, ?_⟩ | refine List.forall_mem_cons.2 ⟨stable_lit _ _ _ _, ?_⟩ | refine List.forall_mem_cons.2 ⟨stable_rowy _ _ _ _, ?_⟩)
          · intro A W hC hd hx
            refine ⟨fun g hg => (by cases hg), ?_⟩
            clear hd
            have hE5 := isE5_new (W := W) (base := W3.heap.size) hC.size
            simp [go_sem, looseUpon, factOf]
            exact ⟨hE5, hC.alloc hC.size _, extR_below ((Below.refl _ W).alloc (Nat.le_refl _) _)⟩
          · intro A W hC hd hx
            have hk : ∀ v, A.eval (.const v) = v := fun _ => rfl
            have hy0 : A.eval (.tmp 3) = Value.slice ao k capo := hx 3 (by simp)
            clear hd
            generalize A.eval = ρ at hk hy0 ⊢
            simp [go_sem, looseUpon, factOf, hk, hy0]
            exact ⟨hC, extR_below (Below.refl _ _)⟩
          · intro A W hC hd hx
            have hk : ∀ v, A.eval (.const v) = v := fun _ => rfl
            have hy0 : A.eval (.tmp 5) = Value.int .i64 j := hx 5 (by simp)
            clear hd
            generalize A.eval = ρ at hk hy0 ⊢
            simp [go_sem, looseUpon, factOf, hk, hy0]
            exact ⟨hC, extR_below (Below.refl _ _)⟩
          · intro A W hC hd hx
            have hk : ∀ v, A.eval (.const v) = v := fun _ => rfl
            have c0 := HA1.out
            simp [factOf] at hd
            generalize A.eval = ρ at hd hk ⊢
            simp [go_sem, looseUpon, factOf, hd, hk, c0]
            exact ⟨hC, extR_below (Below.refl _ _)⟩
          · intro A W hC hd hx
            refine ⟨fun g hg => (by cases hg), ?_⟩
            simp [factOf] at hd
            obtain ⟨hd1, hd2⟩ := hd
            obtain ⟨v', W', hrun, hrow, hb⟩ := run_append_freshO (base := W3.heap.size) hC.size hd1 A1 j capo (flat5 (out.take j)) HL1.out (fun h => (HA1N.out h).1) (HN1.out W hC) (flat5_one _) hjm 22
            obtain ⟨p, hp, _⟩ := hd1
            rw [hp] at hrun
            generalize A.eval = ρ at hp hd2 ⊢
            simp [execOp, resolve, invoke, builtin, hp, hd2, hrun, looseUpon, factOf]
            exact ⟨hrow, hC.trans (hb.mono hC.size), extR_below hb⟩
          · intro A W hC hd hx
            have hk : ∀ v, A.eval (.const v) = v := fun _ => rfl
            have hy0 : A.eval (.tmp 0) = Value.slice (some ⟨b, oo, none⟩) L ccap := hx 0 (by simp)
            clear hd
            generalize A.eval = ρ at hk hy0 ⊢
            simp [go_sem, looseUpon, factOf, hk, hy0]
            exact ⟨hC, extR_below (Below.refl _ _)⟩
          · intro A W hC hd hx
            have hk : ∀ v, A.eval (.const v) = v := fun _ => rfl
            have hy0 : A.eval (.tmp 4) = Value.int .i64 k := hx 4 (by simp)
            clear hd
            generalize A.eval = ρ at hk hy0 ⊢
            simp [go_sem, looseUpon, factOf, hk, hy0]
            exact ⟨hC, extR_below (Below.refl _ _)⟩
          · intro A W hC hd hx
            have hk : ∀ v, A.eval (.const v) = v := fun _ => rfl
            have c0 := hlt
            simp [factOf] at hd
            generalize A.eval = ρ at hd hk ⊢
            simp [go_sem, looseUpon, factOf, hd, hk, c0]
            exact ⟨hC, extR_below (Below.refl _ _)⟩
          · intro A W hC hd hx
            have hk : ∀ v, A.eval (.const v) = v := fun _ => rfl
            have c0 := (HXC.out W hC).1
            have c1 := (HXC.out W hC).2.1
            have c2 := (HXC.out W hC).2.2.1
            have c3 := (HXC.out W hC).2.2.2.1
            have c4 := (HXC.out W hC).2.2.2.2
            simp [factOf] at hd
            generalize A.eval = ρ at hd hk ⊢
            simp [go_sem, looseUpon, factOf, hd, hk, c0, c1, c2, c3, c4]
            exact ⟨hC, extR_below (Below.refl _ _)⟩
          · intro A W hC hd hx
            refine ⟨fun g hg => (by cases hg), ?_⟩
            simp [factOf] at hd
            have hlit := isLit_new (W := W) (base := W3.heap.size) hC.size x
            generalize A.eval = ρ at hd ⊢
            simp [go_sem, looseUpon, factOf, hd]
            exact ⟨hlit, hC.alloc hC.size _, extR_below ((Below.refl _ W).alloc (Nat.le_refl _) _)⟩
          · intro A W hC hd hx
            refine ⟨fun g hg => (by cases hg), ?_⟩
            simp [factOf] at hd
            obtain ⟨hd1, B5, hd2, hd3⟩ := hd
            obtain ⟨v', W', hrun, hrow, hb, hext⟩ := append_ext (W0 := W3) hC hd1 ⟨B5, 0, none⟩ 1 rfl (hd3.cells (g := B5) (by rw [hd2]; rfl)) (flat5_one [x]) hjm 22
            generalize A.eval = ρ at hd1 hd2 hrun ⊢
            simp [execOp, resolve, invoke, builtin, hd2, hrun, looseUpon, factOf]
            exact ⟨hrow, hb, hext⟩
          · intro A W hC hd hx
            have hk : ∀ v, A.eval (.const v) = v := fun _ => rfl
            have hy0 : A.eval (.tmp 3) = Value.slice ao k capo := hx 3 (by simp)
            clear hd
            generalize A.eval = ρ at hk hy0 ⊢
            simp [go_sem, looseUpon, factOf, hk, hy0]
            exact ⟨hC, extR_below (Below.refl _ _)⟩
          · intro A W hC hd hx
            have hk : ∀ v, A.eval (.const v) = v := fun _ => rfl
            have hy0 : A.eval (.tmp 5) = Value.int .i64 j := hx 5 (by simp)
            clear hd
            generalize A.eval = ρ at hk hy0 ⊢
            simp [go_sem, looseUpon, factOf, hk, hy0]
            exact ⟨hC, extR_below (Below.refl _ _)⟩
          · intro A W hC hd hx
            have hk : ∀ v, A.eval (.const v) = v := fun _ => rfl
            have c0 := HA2.out
            simp [factOf] at hd
            generalize A.eval = ρ at hd hk ⊢
            simp [go_sem, looseUpon, factOf, hd, hk, c0]
            exact ⟨hC, extR_below (Below.refl _ _)⟩
          · intro W hC
            simp only [ends]
            rintro _ ⟨g5, rfl, _⟩ _ rfl _ rfl _ rfl v36 _ _ rfl _ rfl _ rfl _ rfl _ ⟨B5, rfl, _⟩ v42 hrow _ rfl _ rfl _ rfl
            simp only [putAll, List.zip_cons_cons, List.zip_nil_left, List.foldl_cons, List.foldl_nil, Act.put, List.setIfInBounds_toArray, List.set_cons_succ, List.set_cons_zero, List.drop_succ_cons, List.drop_zero]
            obtain ⟨P0, hP0⟩ : ∃ P0 : Piles W3 [⟨26, 5, v42, j + 1, flat5 (out.take j) ++ x.cells⟩], W = P0.w := ⟨⟨W, hC, all1 hrow, by simp⟩, rfl⟩
            have hN2 := HN2.out W hC
            rw [hP0] at hN2
            rw [hP0]
            clear hP0 hrow hC
            obtain ⟨E, hE⟩ := elem5
            refine wpList_append_pilesS E P0 (.tmp 42) (.tmp 45) rfl rfl rfl A2 (k - j) (capo - j) (flat5 (out.drop j)) HL2.out rfl HA2N.out hN2 (flat5_one _) (by unfold maxLen; omega) (by rw [hE]; omega) (fun v7 S7 => ?_)
            have hrow7 := S7.rows _ List.mem_cons_self
            have hins := insert_asc (out := out) (x := x) (at_ := j) HO.out.2.1 (by rw [HO.out.1]; exact hjk) HS.out HLE.out
            obtain ⟨ns, hns⟩ : ∃ ns, ns = out.take j ++ x :: out.drop j := ⟨_, rfl⟩
            have hnl : ns.length = k + 1 := by rw [hns, List.length_append, List.length_cons, List.length_take, List.length_drop, HO.out.1, Nat.min_eq_left hjk]; omega
            have hfl : flat5 ns = flat5 (out.take j) ++ x.cells ++ flat5 (out.drop j) := by rw [hns, flat5_append, show flat5 (x :: out.drop j) = x.cells ++ flat5 (out.drop j) from rfl, List.append_assoc]
            have hb7 : Below W1.heap.size W1 S7.w := HB3.out.trans (S7.below.mono HB3.out.size)
            have hb8 : Below w.heap.size w S7.w := HBW.out.trans (hb7.mono HBW.out.size)
            obtain ⟨a7, cap7, rfl, hc7⟩ := row_cmds (W := S7.w) (base := W3.heap.size) (n := j + 1 + (k - j)) (v := v7) (cs := ns) (by rw [hfl]; exact hrow7) (by omega) (fun c hc => by
              rw [hns] at hc
              rcases List.mem_append.1 hc with hc | hc
              · exact (HO.out.2.2.2.ok c (List.mem_of_mem_take hc)).below hb7
              · rcases List.mem_cons.1 hc with rfl | hc
                · exact (HC.out.ok c (List.mem_of_getElem? HX.out)).below hb8
                · exact (HO.out.2.2.2.ok c (List.mem_of_mem_drop hc)).below hb7)
            obtain ⟨T, hT⟩ : ∃ T : HeldW w [], S7.w = T.w := ⟨⟨S7.w, hb8, by simp⟩, rfl⟩
            have HF : Hid (ns.length = k + 1 ∧ Asc ns ∧ ns.Perm (cs.take (k + 1)) ∧ CmdsIn T.w a7 ns cap7) := Lib.hid ⟨hnl, by rw [hns]; exact hins.1, by rw [hns]; exact perm_take_succ HX.out HO.out.2.2.1 hins.2, by rw [← hT]; exact hc7⟩
            rw [hT, hnl]
            clear hT hnl hns hfl hb7 hb8 hc7 hins hrow7 P0 hN2 S7
            go_wp2
            go_roundw
            case rel => exact ⟨k + 1, ns, a7, cap7, by omega, by go_num, rfl, T, rfl, HF⟩
            case measure => simp [intOf]; omega
    · obtain rfl : k = L := by omega
      have hh := hout.out
      rw [HL.out, List.take_length] at hh
      have := hpost.out ao out capo s.w hh.2.2.2 hh.2.2.1 hh.2.1 s.below
      rw [hh.1, ← HL.out] at this
      clear hh hout
      go_wp2
      exact this
end Go.Proofs.Ytgmjppjgbalapaa
