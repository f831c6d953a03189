import Derived.Great.BuildSlice
import Derived.Test.YtgmjppjgbalapaaE09q20
import Derived.Test.YtgmjppjgbalapaaE09q18
import Derived.Test.YtgmjppjgbalapaaE09q13
import Derived.Test.YtgmjppjgbalapaaE09q15
import Derived.WalkMore
import Derived.Test.YtgmjppjgbalapaaE09q19
import Derived.Test.YtgmjppjgbalapaaE09q11
import Derived.Test.YtgmjppjgbalapaaE09q9
import Derived.BigQuiet
import Derived.LoopTactic
import Derived.WalkKit
import Derived.Deep.QuietTactic
import Derived.Outline
import Derived.Test.YtgmjppjgbalapaaChecked
import Derived.Test.YtgmjppjgbalapaaE09q1
/- withLiteral and commands of package patch. -/
namespace Go.Proofs.Ytgmjppjgbalapaa
open Go.RowKit
set_option linter.unusedVariables false
set_option linter.unusedSimpArgs false

/-- The commands so far, in a row of the call's own. -/
structure CmdRow (w : World) (b : Option Addr) (x : List Int) (capx : Nat) (L : List Core8) (v : Value) (wr : World) where
  cs : List Cmd
  els : List Sl7
  S : Grow w none [] els 26 5 v cs.length (flat5 cs)
  eq : wr = S.w
  co : cores cs = L
  ok : ∀ c ∈ cs, (I64 c.k ∧ I64 c.t ∧ I64 c.f ∧ I64 c.n) ∧ OkB c.l ∧ (c.a, c.l, c.cap) ∈ els ∧ (0 < c.l.length → ∀ ad, c.a = some ad → w.heap.size ≤ ad.block)
  dat : (b, x, capx) ∈ els
theorem CmdRow.start {w : World} {b : Option Addr} {x : List Int} {capx : Nat} (hx : BytesIn w b x capx) : Nonempty (CmdRow w b x capx [] (.slice none 0 0) w) :=
  ⟨[], [(b, x, capx)], ⟨w, ButO.of_below (Below.refl _ _), World.ownsRow_nil _ w.heap.size 26 5, (fun g hg => by cases hg), (fun p hp => by simp at hp), (fun p hp => by
    obtain rfl := List.mem_singleton.1 hp
    exact ⟨hx, fun hl ad had => ⟨by simp [Value.ownBlock], fun h => by cases h⟩⟩)⟩, rfl, rfl, (fun c hc => by simp at hc), by simp⟩
theorem CmdRow.below {w : World} {b : Option Addr} {x : List Int} {capx : Nat} {L : List Core8} {v : Value} {wr : World} (R : CmdRow w b x capx L v wr) : Below w.heap.size w wr := by rw [R.eq]; exact R.S.but.below
/-- One more command. -/
theorem CmdRow.snoc {w : World} {b : Option Addr} {x : List Int} {capx : Nat} {L : List Core8} {cs : List Cmd} {els : List Sl7} {bs : List (Nat × Obj)} {k t f n : Int} {l : List Int} {A : Option Addr} {C : Nat} {v' : Value}
    (S : Grow w none bs ((A, l, C) :: els) 26 5 v' (cs.length + 1) (flat5 cs ++ Cmd.cells ⟨k, t, f, n, l, A, C⟩)) (co : cores cs = L)
    (ok : ∀ c ∈ cs, (I64 c.k ∧ I64 c.t ∧ I64 c.f ∧ I64 c.n) ∧ OkB c.l ∧ (c.a, c.l, c.cap) ∈ els ∧ (0 < c.l.length → ∀ ad, c.a = some ad → w.heap.size ≤ ad.block)) (dat : (b, x, capx) ∈ els)
    (h64 : I64 k ∧ I64 t ∧ I64 f ∧ I64 n) (ol : OkB l) (hA : 0 < l.length → ∀ ad, A = some ad → w.heap.size ≤ ad.block) : Nonempty (CmdRow w b x capx (L ++ [(k, t, f, n, l)]) v' S.w) := by
  obtain ⟨S8, h8⟩ := S.sub (bs' := []) (fun p hp => by simp at hp)
  obtain ⟨S9, h9⟩ := S8.conv (n' := (cs ++ [(⟨k, t, f, n, l, A, C⟩ : Cmd)]).length) (xs' := flat5 (cs ++ [(⟨k, t, f, n, l, A, C⟩ : Cmd)])) (by simp) (by rw [flat5_append]; simp [flat5])
  refine ⟨⟨_, _, S9, h8.trans h9, ?_, fun d hd => ?_, List.mem_cons_of_mem _ dat⟩⟩
  · unfold cores at co ⊢
    rw [List.map_append, co]
    rfl
  · rcases List.mem_append.1 hd with hd | hd
    · obtain ⟨h1, h2, h3, h4⟩ := ok d hd
      exact ⟨h1, h2, List.mem_cons_of_mem _ h3, h4⟩
    · obtain rfl := List.mem_singleton.1 hd
      exact ⟨h64, ol, List.mem_cons_self, hA⟩
/-- A callee that makes a slice of its own. -/
theorem Grow.madeC {w0 : World} {bs : List (Nat × Obj)} {els : List Sl7} {e : TypeId} {size : Nat} {v : Value} {n : Nat} {xs : List Value} {P : Program} {f : FuncId} {args : Array Value} {mk : Value → Value} {l : List Int} {S : Grow w0 none bs els e size v n xs} (hc : Calls P f args S.w (MakesC mk l S.w)) :
    Calls P f args S.w fun en w'' => ∃ A C, en = .returned (mk (.slice A l.length C)) ∧ (∀ ad, A = some ad → w0.heap.size ≤ ad.block) ∧ ∃ S' : Grow w0 none bs ((A, l, C) :: els) e size v n xs, w'' = S'.w :=
  hc.mono fun _ w'' ⟨u, he, so, hw⟩ => by
    subst hw
    obtain ⟨A, C, rfl, hB, hA⟩ := own_sl (l := l) (by have := so.own; rw [List.length_map] at this; exact this)
    obtain ⟨S1, h1⟩ := S.later so.below
    rw [h1] at hB
    obtain ⟨S2, h2⟩ := S1.addEl (A, l, C) hB (fun _ ad had => ⟨fun hg => by
      have h3 := (hA ad had).1
      have h4 := S.ownLt hg
      omega, fun h => by cases h⟩)
    exact ⟨A, C, he, fun ad had => Nat.le_trans S.but.size (hA ad had).1, S2, h1.trans h2⟩
theorem one_cells (c : Cmd) : ∀ x ∈ Cmd.cells c, x.oneCell' = true := fun x hx => by
  simp only [Cmd.cells, List.mem_cons, List.not_mem_nil, or_false] at hx
  rcases hx with rfl | rfl | rfl | rfl | rfl <;> rfl
theorem lit_i64 {p : Nat} (h : p ≤ 100000) : I64 (p : Int) := by unfold I64; omega

/-- The commands of Make, in a row of its own. -/
def CmdsMade (b : Option Addr) (x : List Int) (capx : Nat) (L : List Core8) (w : World) (e : Ending) (w' : World) : Prop := ∃ v', e = .returned v' ∧ Nonempty (CmdRow w b x capx L v' w')
/-- What the loop of commands keeps: the bytes from B to P are literal. -/
structure CmdLoop8 (w : World) (b : Option Addr) (l x : List Int) (capx : Nat) (block : Int) (P B : Nat) (v : Value) (wr : World) : Prop where
  hBP : B ≤ P
  hP : P ≤ x.length
  row : ∃ L k, L.length ≤ 2 * B ∧ x.length - P < k ∧ L ++ greedy (findN l x block) x k P B = makeC l x block ∧ Nonempty (CmdRow w b x capx L v wr)
theorem CmdRow.later {w : World} {b : Option Addr} {x : List Int} {capx : Nat} {L : List Core8} {v : Value} {wr w' : World} (R : CmdRow w b x capx L v wr) (hb : Below wr.heap.size wr w') : Nonempty (CmdRow w b x capx L v w') := by
  obtain ⟨cs, els, S, rfl, hco, hok, hdat⟩ := R
  obtain ⟨S', h'⟩ := S.later hb
  exact ⟨⟨cs, els, S', h', hco, hok, hdat⟩⟩
theorem litC_few (x : List Int) (p q : Nat) : (litC x p q).length ≤ 1 := by
  unfold litC
  split <;> simp

end Go.Proofs.Ytgmjppjgbalapaa

/- Merge of package tidy. -/
namespace Go.Proofs.Ytgmjppjgbalapaa
open Go.RowKit Go.Shelf Go.Proofs.Ytgmjppjgbalapaa.Plain01
set_option linter.unusedVariables false
set_option linter.unusedSimpArgs false

theorem Piles.boxFree {w0 : World} {rs : List Row} (S : Piles w0 rs) {t : TypeId} {size b : Nat} {xs : List Value} (h : (⟨t, size, .slice (some ⟨b, 0, none⟩) 1 1, 1, xs⟩ : Row) ∈ rs) : ∀ i, S.w.frozen? ⟨b, i, none⟩ = false := by
  have hr := S.rows _ h
  rcases hr.2 with ⟨h1, _⟩ | ⟨g, cap, cur, hv, hg, hb, hc, hm, hs, ht⟩
  · cases h1
  · cases hv
    exact fun i => free_of hb i
theorem Piles.box5 {w0 : World} {rs : List Row} (S : Piles w0 rs) {b : Nat} {c : Cmd} (h : (⟨26, 5, .slice (some ⟨b, 0, none⟩) 1 1, 1, Cmd.cells c⟩ : Row) ∈ rs) :
    S.w.cell? ⟨b, 0, none⟩ = some (.int .i64 c.k) ∧ S.w.cell? ⟨b, 1, none⟩ = some (.int .i64 c.t) ∧ S.w.cell? ⟨b, 2, none⟩ = some (.int .i64 c.f) ∧ S.w.cell? ⟨b, 3, none⟩ = some (.int .i64 c.n) ∧ S.w.cell? ⟨b, 4, none⟩ = some (.slice c.a c.l.length c.cap) := by
  have hc := (S.boxCells h).2
  exact ⟨hc 0 _ rfl, hc 1 _ rfl, hc 2 _ rfl, hc 3 _ rfl, hc 4 _ rfl⟩

/-- The rows of the merged command: its bytes, its box. -/
abbrev rowsM (B : Nat) (m : Cmd) : List Row := [⟨5, 1, .slice m.a m.l.length m.cap, m.l.length, m.l.map (Value.int .u8)⟩, ⟨26, 5, .slice (some ⟨B, 0, none⟩) 1 1, 1, Cmd.cells m⟩]

/-- What the outer loop keeps. -/
structure MrgOut (w : World) (cs : List Cmd) (i : Nat) (v : Value) (wr : World) : Prop where
  hi : i ≤ cs.length
  row : ∃ done, done ++ mergeL (cores (cs.drop i)) = mergeL (cores cs) ∧ done.length ≤ i ∧ Nonempty (CmdRow w none [] 0 done v wr)
theorem mergeL_cons {cs : List Cmd} {i : Nat} {c : Cmd} (h : cs[i]? = some c) : mergeL (cores (cs.drop i)) = mergeF c.core (cores (cs.drop (i + 1))) := by
  obtain ⟨h1, h2⟩ := List.getElem?_eq_some_iff.1 h
  rw [List.drop_eq_getElem_cons h1, h2]
  rfl
theorem mergeF_next {cs : List Cmd} {j : Nat} {c : Cmd} {m : Core8} (h : cs[j]? = some c) : mergeF m (cores (cs.drop j)) = if canM m c.core then mergeF (joinM m c.core) (cores (cs.drop (j + 1))) else m :: mergeL (cores (cs.drop j)) := by
  have h2 := mergeL_cons h
  obtain ⟨h1, h3⟩ := List.getElem?_eq_some_iff.1 h
  rw [h2, List.drop_eq_getElem_cons h1, h3]
  rfl
theorem mergeF_end {cs : List Cmd} {j : Nat} {m : Core8} (h : cs.length ≤ j) : mergeF m (cores (cs.drop j)) = [m] ++ mergeL (cores (cs.drop j)) := by
  rw [List.drop_eq_nil_of_le h]
  rfl

set_option maxRecDepth 100000 in
set_option maxHeartbeats 8000000 in
theorem merge9_any (ca : Option Addr) (cs : List Cmd) (ccap : Nat) (w : World) (h : CmdsIn w ca cs ccap) (hg : ∀ c ∈ cs, GoodB c.core) (hL : cs.length ≤ 1000) (hsm : ∀ c ∈ cs, c.l.length ≤ 1000) :
    Calls Try.prog 10 #[.slice ca cs.length ccap] w (fun e w' => ∃ v', e = .returned v' ∧ Nonempty (CmdRow w none [] 0 (mergeL (cores cs)) v' w')) := by
  obtain ⟨E5, hE5⟩ := elem5
  obtain ⟨E8, hE8⟩ := elemW8
  have HE5 := Lib.hid hE5
  have HE8 := Lib.hid hE8
  obtain ⟨POST, hP⟩ : ∃ P : Ending → World → Prop, P = (fun e w' => ∃ v', e = .returned v' ∧ Nonempty (CmdRow w none [] 0 (mergeL (cores cs)) v' w')) := ⟨_, rfl⟩
  have HEND : Hid (∀ v' W, Nonempty (CmdRow w none [] 0 (mergeL (cores cs)) v' W) → POST (.returned v') W) := Lib.hid fun v' W hn => by
    rw [hP]; exact ⟨v', rfl, hn⟩
  have HS : Hid (MrgOut w cs 0 (.slice none 0 0) w) := Lib.hid ⟨Nat.zero_le _, [], rfl, Nat.le_refl _, CmdRow.start ⟨Nat.le_refl _, by simp, fun h => by simp at h, fun _ => rfl⟩⟩
  have HC := Lib.hid h
  have HG := Lib.hid hg
  have HSM := Lib.hid hsm
  have hccap := h.capb
  have hclen := h.len
  rw [← hP]
  obtain ⟨CC, hCC⟩ : ∃ CC, CC = cs.length := ⟨_, rfl⟩
  have HCC := Lib.hid hCC
  rw [← hCC] at hL hclen ⊢
  clear hP h hg hsm hE5 hE8 hCC
  go_enter Try.func10, Try.ntmps10
  go_wp2
  go_loopw [3, 4] (fun v iv wr => ∃ i : Nat, iv = .int .i64 (i : Int) ∧ Hid (MrgOut w cs i v wr)) (fun _ iv _ => CC - (intOf iv).toNat)
  case atStart => exact ⟨0, rfl, HS⟩
  case round =>
    clear HS
    obtain ⟨i, rfl, HI⟩ := hrel
    have hic : i ≤ CC := by rw [HCC.out]; exact HI.out.hi
    obtain ⟨done, hdone, hdl, ⟨R⟩⟩ := HI.out.row
    have hbw := R.below
    by_cases hlt : i < CC
    · obtain ⟨c, hc⟩ : ∃ c, cs[i]? = some c := ⟨_, List.getElem?_eq_getElem (by rw [← HCC.out]; exact hlt)⟩
      have hcin := HC.out.below hbw
      obtain ⟨b, oo, rfl, x0, x1, x2, x3, x4⟩ := hcin.at hc
      have hcm := List.mem_of_getElem? hc
      rw [mergeL_cons hc] at hdone
      have hcl := mclone_any c.k c.t c.f c.n c.l c.a c.cap wr (hcin.ok c hcm).b (by have := HSM.out c hcm; omega)
      have HDONE := Lib.hid hdone
      have HGC := Lib.hid (HG.out c hcm)
      have HOC := Lib.hid (HC.out.ok c hcm)
      have HLC := Lib.hid (HSM.out c hcm)
      have HDL := Lib.hid hdl
      have HBW := Lib.hid hbw
      have HRL : Hid (∀ W, Below wr.heap.size wr W → Nonempty (CmdRow w none [] 0 done u3 W)) := Lib.hid fun W hW => R.later hW
      have HOWN : Hid (∀ g, u3.ownBlock = some g → g < wr.heap.size) := Lib.hid fun g hg => by have := R.S.ownLt hg; rwa [← R.eq] at this
      clear hc hcin hcm hdone hdl hbw R HI
      go_wp2_with fail
      go_step3
      go_wp2_with fail
      refine hcl.mono ?_
      rintro e _ ⟨v1, rfl, so, rfl⟩
      obtain ⟨S1, h1⟩ : ∃ S1 : Piles wr [⟨5, 1, v1, c.l.length, c.l.map (Value.int .u8)⟩], so.w = S1.w := by
        refine ⟨⟨so.w, so.below, fun r hr => ?_, by simp⟩, rfl⟩
        obtain rfl := List.mem_singleton.1 hr
        have := so.own
        rw [List.length_map] at this
        exact this
      obtain ⟨A, C, rfl, hA⟩ := so.bytes
      rw [h1]
      obtain ⟨B, S3, hB, h3⟩ : ∃ (B : Nat) (S3 : Piles wr (rowsM B ⟨c.k, c.t, c.f, c.n, c.l, A, C⟩)), B = S1.w.heap.size ∧ S1.w.alloc (cmdO c.k c.t c.f c.n (.slice A c.l.length C)) = S3.w := by
        obtain ⟨S2, h2⟩ := S1.box 26 #[.int .i64 c.k, .int .i64 c.t, .int .i64 c.f, .int .i64 c.n, .slice A c.l.length C] 5 rfl
        obtain ⟨S3, h3⟩ := S2.conv _ rfl (rs2 := rowsM S1.w.heap.size ⟨c.k, c.t, c.f, c.n, c.l, A, C⟩) (by exact List.Perm.swap _ _ _)
        exact ⟨_, S3, rfl, h2.trans h3⟩
      have H3 := Lib.hid (And.intro h3 hB)
      clear h1 h3 hB hA so x0 x1 x2 x3 x4 hcl
      go_wp2_with fail
      rw [H3.out.1, ← H3.out.2]
      clear H3 S1
      go_step3
      go_wp2_with fail
      go_loopw [4] (fun iv wr' => ∃ (j : Nat) (m : Cmd), iv = .int .i64 (j : Int) ∧ j ≤ CC ∧ Hid (i < j ∧ done ++ mergeF m.core (cores (cs.drop j)) = mergeL (cores cs) ∧ GoodB m.core ∧ OkB m.l ∧ m.l.length ≤ j * 1000) ∧ ∃ S : Piles wr (rowsM B m), wr' = S.w) (fun iv _ => CC - (intOf iv).toNat)
      case atStart => exact ⟨i + 1, ⟨c.k, c.t, c.f, c.n, c.l, A, C⟩, by go_num, by omega, Lib.hid ⟨by omega, HDONE.out, HGC.out, HOC.out.o, (show c.l.length ≤ (i + 1) * 1000 by have := HLC.out; omega)⟩, S3, rfl⟩
      case round =>
        clear S3
        obtain ⟨j, m, rfl, hjc, HM, S, rfl⟩ := hrel
        have hmb := S.box5 (b := B) (c := m) (by simp)
        obtain ⟨y0, y1, y2, y3, y4⟩ := hmb
        by_cases hjlt : j < CC
        · obtain ⟨d, hd⟩ : ∃ d, cs[j]? = some d := ⟨_, List.getElem?_eq_getElem (by rw [← HCC.out]; exact hjlt)⟩
          have hbS : Below w.heap.size w S.w := HBW.out.trans (S.below.mono HBW.out.size)
          have hcin := HC.out.below hbS
          obtain ⟨b', oo', hbo, x0, x1, x2, x3, x4⟩ := hcin.at hd
          cases hbo
          obtain ⟨B2, S4, hB2, h4⟩ : ∃ (B2 : Nat) (S4 : Piles wr (⟨5, 1, .slice m.a m.l.length m.cap, m.l.length, m.l.map (Value.int .u8)⟩ :: ⟨26, 5, .slice (some ⟨B, 0, none⟩) 1 1, 1, Cmd.cells m⟩ :: [⟨26, 5, .slice (some ⟨B2, 0, none⟩) 1 1, 1, Cmd.cells d⟩])), B2 = S.w.heap.size ∧ S.w.alloc (cmdO d.k d.t d.f d.n (.slice d.a d.l.length d.cap)) = S4.w := by
            obtain ⟨S2, h2⟩ := S.box 26 #[.int .i64 d.k, .int .i64 d.t, .int .i64 d.f, .int .i64 d.n, .slice d.a d.l.length d.cap] 5 rfl
            obtain ⟨S3, h3⟩ := S2.perm (rs' := ⟨5, 1, .slice m.a m.l.length m.cap, m.l.length, m.l.map (Value.int .u8)⟩ :: ⟨26, 5, .slice (some ⟨B, 0, none⟩) 1 1, 1, Cmd.cells m⟩ :: [⟨26, 5, .slice (some ⟨S.w.heap.size, 0, none⟩) 1 1, 1, Cmd.cells d⟩]) (by exact (List.perm_append_comm (l₁ := [_, _]) (l₂ := [_])))
            exact ⟨_, S3, rfl, h2.trans h3⟩
          have H4 := Lib.hid (And.intro h4 hB2)
          have hab := able_any m d HM.out.2.2.1 (HG.out d (List.mem_of_getElem? hd))
          obtain ⟨z0, z1, z2, z3, z4⟩ := S4.box5 (b := B) (c := m) (by simp)
          obtain ⟨n0, n1, n2, n3, n4⟩ := S4.box5 (b := B2) (c := d) (by simp)
          rw [← h4] at z0 z1 z2 z3 z4 n0 n1 n2 n3 n4
          rw [hB2] at n0 n1 n2 n3 n4
          have HD := Lib.hid hd
          have HIN := Lib.hid (hcin.ok d (List.mem_of_getElem? hd))
          have HBS := Lib.hid hbS
          clear h4 hB2 y0 y1 y2 y3 y4 hcin hd hbS
          go_wp2_with fail
          rw [H4.out.1, ← H4.out.2]
          refine (Piles.call (S := S4) (hab _)).mono ?_
          rintro e _ ⟨rfl, S5, rfl⟩
          clear z0 z1 z2 z3 z4 n0 n1 n2 n3 n4 x0 x1 x2 x3 x4 hab H4 S4
          obtain ⟨z0, z1, z2, z3, z4⟩ := S5.box5 (b := B) (c := m) (by simp)
          obtain ⟨n0, n1, n2, n3, n4⟩ := S5.box5 (b := B2) (c := d) (by simp)
          have zf := S5.boxFree (t := 26) (size := 5) (b := B) (xs := Cmd.cells m) (by simp)
          have hstep := mergeF_next (m := m.core) HD.out
          by_cases hcan : canM m.core d.core
          · rw [decide_eq_true hcan]
            rw [if_pos hcan] at hstep
            obtain ⟨j1, j2, j3, j4, j5⟩ := HM.out.2.2.1.join (HG.out d (List.mem_of_getElem? HD.out)) hcan
            rcases (good_ok HM.out.2.2.1).2.1 with hk | hk
            · have hdk : d.k = 1 := by have h : m.k = d.k := hcan.1; omega
              have HDK := Lib.hid (And.intro hk hdk)
              have e11 : (d.k == 1) = true := by rw [hdk]; rfl
              have hgm := HM.out.2.2.1
              have hgd := HG.out d (List.mem_of_getElem? HD.out)
              have hb3 : 0 ≤ m.n ∧ 0 ≤ d.n ∧ m.n + d.n ≤ 4611686018427387903 := by
                have hj := j1
                have hjn : joinM m.core d.core = (m.k, m.t, m.f, m.n + d.n, m.l) := by unfold joinM Cmd.core; simp only; rw [if_pos hk]
                rw [hjn] at hj
                unfold GoodB Cmd.core at hgm hgd
                unfold GoodB at hj
                simp only at hgm hgd hj
                omega
              obtain ⟨hb3, hb4, hb5⟩ := hb3
              obtain ⟨S6, h6⟩ := S5.storeAt 1 ⟨26, 5, .slice (some ⟨B, 0, none⟩) 1 1, 1, Cmd.cells m⟩ rfl B 1 1 rfl rfl 3 (by simp) (.int .i64 (m.n + d.n))
              obtain ⟨S7, h7⟩ := S6.sub (rs' := rowsM B ⟨m.k, m.t, m.f, m.n + d.n, m.l, m.a, m.cap⟩) (by exact List.Sublist.cons_cons _ (List.Sublist.cons_cons _ (List.Sublist.cons _ List.Sublist.slnil)))
              have H7 := Lib.hid (h6.trans h7)
              have HNX : Hid (i < j + 1 ∧ done ++ mergeF (⟨m.k, m.t, m.f, m.n + d.n, m.l, m.a, m.cap⟩ : Cmd).core (cores (cs.drop (j + 1))) = mergeL (cores cs) ∧ GoodB (⟨m.k, m.t, m.f, m.n + d.n, m.l, m.a, m.cap⟩ : Cmd).core ∧ OkB m.l ∧ m.l.length ≤ (j + 1) * 1000) := Lib.hid (by
                have hjn : joinM m.core d.core = (⟨m.k, m.t, m.f, m.n + d.n, m.l, m.a, m.cap⟩ : Cmd).core := by unfold joinM Cmd.core; simp only; rw [if_pos hk]
                rw [← hjn, ← hstep]
                have := HM.out
                exact ⟨by omega, this.2.1, j1, this.2.2.2.1, by have := this.2.2.2.2; omega⟩)
              clear h6 h7 hstep hgm hgd hk hdk j1 j2 j3 j4 j5 hcan
              go_wp2_with fail
              rw [H7.out]
              go_roundw
              case rel => exact ⟨j + 1, ⟨m.k, m.t, m.f, m.n + d.n, m.l, m.a, m.cap⟩, by go_num, by omega, HNX, S7, rfl⟩
              case measure => simp [intOf]; omega
            · have hdk : d.k = 2 := by have h : m.k = d.k := hcan.1; omega
              have HDK := Lib.hid (And.intro hk hdk)
              have e11 : (d.k == 1) = false := by rw [hdk]; rfl
              have hlm := HM.out.2.2.2.2
              have hld := HSM.out d (List.mem_of_getElem? HD.out)
              have hjk : j * 1000 ≤ 1000000 := by omega
              have hE63 : m.l.length + d.l.length ≤ maxLen := by unfold maxLen; omega
              have hEb : (m.l.length + d.l.length) * E8.bytes ≤ 140737488355328 := by rw [HE8.out]; omega
              have HNEWS := Lib.hid (show ∀ W, Below w.heap.size w W → BytesIn W d.a d.l d.cap from fun W hW => (HC.out.below hW).ok d (List.mem_of_getElem? HD.out) |>.b)
              have HN5 := Lib.hid ((HNEWS.out S5.w (HBW.out.trans (S5.below.mono HBW.out.size))).news)
              have HNIL := Lib.hid ((HNEWS.out S5.w (HBW.out.trans (S5.below.mono HBW.out.size))).nil2 rfl)
              have HNX : Hid (∀ A' C', i < j + 1 ∧ done ++ mergeF (⟨m.k, m.t, m.f, m.n, m.l ++ d.l, A', C'⟩ : Cmd).core (cores (cs.drop (j + 1))) = mergeL (cores cs) ∧ GoodB (⟨m.k, m.t, m.f, m.n, m.l ++ d.l, A', C'⟩ : Cmd).core ∧ OkB (m.l ++ d.l) ∧ (m.l ++ d.l).length ≤ (j + 1) * 1000) := Lib.hid (fun A' C' => by
                have hjn : joinM m.core d.core = (⟨m.k, m.t, m.f, m.n, m.l ++ d.l, A', C'⟩ : Cmd).core := by unfold joinM Cmd.core; simp only; rw [if_neg (by omega)]
                rw [← hjn, ← hstep]
                have hh := HM.out
                refine ⟨by omega, hh.2.1, j1, fun y hy => ?_, by rw [List.length_append]; omega⟩
                rcases List.mem_append.1 hy with hy | hy
                · exact hh.2.2.2.1 y hy
                · exact HIN.out.o y hy)
              clear hstep hk hdk j1 j2 j3 j4 j5 hcan zf
              go_wp2_with (refine wpList_append_piles E8 S5 (.tmp 29) (.tmp 31) ?_ ?_ ?_ d.a d.l.length d.cap (d.l.map (Value.int .u8)) (by simp) ?_ HNIL.out HN5.out (one_bytes _) hE63 hEb ?_; rfl; rfl; rfl; rfl; intro v6 S6; obtain ⟨A6, C6, hv6, -⟩ := S6.view (r := ⟨5, 1, v6, m.l.length + d.l.length, m.l.map (Value.int .u8) ++ d.l.map (Value.int .u8)⟩) (by simp); simp only at hv6; subst hv6; clear z0 z1 z2 z3 z4 n0 n1 n2 n3 n4; obtain ⟨z0, z1, z2, z3, z4⟩ := S6.box5 (b := B) (c := m) (by simp); have zf := S6.boxFree (t := 26) (size := 5) (b := B) (xs := Cmd.cells m) (by simp))
              obtain ⟨S7, h7⟩ := S6.storeAt 1 ⟨26, 5, .slice (some ⟨B, 0, none⟩) 1 1, 1, Cmd.cells m⟩ rfl B 1 1 rfl rfl 4 (by simp) (.slice A6 (m.l.length + d.l.length) C6)
              obtain ⟨S8, h8⟩ := S7.sub (rs' := rowsM B ⟨m.k, m.t, m.f, m.n, m.l ++ d.l, A6, C6⟩) (by
                have e1 : m.l.length + d.l.length = (m.l ++ d.l).length := by simp
                have e2 : m.l.map (Value.int .u8) ++ d.l.map (Value.int .u8) = (m.l ++ d.l).map (Value.int .u8) := by simp
                have e3 : Cmd.cells (⟨m.k, m.t, m.f, m.n, m.l ++ d.l, A6, C6⟩ : Cmd) = (Cmd.cells m).set 4 (.slice A6 (m.l.length + d.l.length) C6) := by simp [Cmd.cells]
                unfold rowsM
                rw [e3]
                simp only
                rw [← e1, ← e2]
                exact List.Sublist.cons_cons _ (List.Sublist.cons_cons _ (List.Sublist.cons _ List.Sublist.slnil)))
              have H8 := Lib.hid (h7.trans h8)
              clear h7 h8
              rw [H8.out]
              go_roundw
              case rel => exact ⟨j + 1, ⟨m.k, m.t, m.f, m.n, m.l ++ d.l, A6, C6⟩, by go_num, by omega, HNX.out A6 C6, S8, rfl⟩
              case measure => simp [intOf]; omega
          · rw [decide_eq_false hcan]
            rw [if_neg hcan] at hstep
            have hstep2 : Hid (done ++ ([m.core] ++ mergeL (cores (cs.drop j))) = mergeL (cores cs)) := Lib.hid (by
              have h1 := HM.out.2.1
              rw [hstep] at h1
              exact h1)
            clear hstep hcan n0 n1 n2 n3 n4 zf
            obtain ⟨R2⟩ := HRL.out S5.w S5.below
            obtain ⟨hml, ma, mcap, hmv, hmb⟩ := S5.bytes (v := .slice m.a m.l.length m.cap) (n := m.l.length) (l := m.l) (by simp)
            obtain ⟨rfl, rfl⟩ : m.a = ma ∧ m.cap = mcap := by cases hmv; exact ⟨rfl, rfl⟩
            have hmap : ∀ g, (Value.slice m.a m.l.length m.cap).ownBlock = some g → wr.heap.size ≤ g := fun g hg => ((S5.rows ⟨5, 1, .slice m.a m.l.length m.cap, m.l.length, m.l.map (Value.int .u8)⟩ (by simp)).lt g hg).1
            obtain ⟨cs2, els2, SG, hSG, hco, hok, hdat⟩ := R2
            have hcl2 : cs2.length ≤ 1000 := by
              have h1 := HDL.out
              rw [← hco] at h1
              unfold cores at h1
              rw [List.length_map] at h1
              omega
            have HOK := Lib.hid (And.intro hco (And.intro hok hdat))
            have hEb : (cs2.length + 1) * E5.bytes ≤ 140737488355328 := by rw [HE5.out]; omega
            have hE63 : cs2.length + 1 ≤ maxLen := by unfold maxLen; omega
            rw [hSG] at hmb
            obtain ⟨SG2, h2⟩ := SG.addEl (m.a, m.l, m.cap) hmb (fun _ ad had => ⟨fun hg => by
              have q1 := HOWN.out _ hg
              have q2 := hmap ad.block (by simp only at had; rw [had]; rfl)
              omega, fun h => by cases h⟩)
            obtain ⟨B6, S6, hB6, hS6⟩ := SG2.more (.cells (Cmd.cells m).toArray 26 (0, 0))
            have HS6 : Hid (S5.w.alloc (.cells #[.int .i64 m.k, .int .i64 m.t, .int .i64 m.f, .int .i64 m.n, .slice m.a m.l.length m.cap] 26 (0, 0)) = S6.w) := Lib.hid (by rw [hSG, h2]; exact hS6)
            have HB6 := Lib.hid (show B6 = S5.w.heap.size by rw [hSG, h2]; exact hB6)
            have hcell : ∀ (j : Nat) (u : Value), (Cmd.cells m)[j]? = some u → S6.w.cell? ((⟨B6, 0, none⟩ : Addr).add j) = some u := fun j u hu => by
              rw [Addr.add_mid, Nat.zero_add, cell_of (S6.blocks (B6, .cells (Cmd.cells m).toArray 26 (0, 0)) (by simp)).1]
              simpa using hu
            have hgm := HM.out.2.2.1
            have HI64 := Lib.hid (show I64 m.k ∧ I64 m.t ∧ I64 m.f ∧ I64 m.n from by unfold GoodB Cmd.core at hgm; simp only at hgm; unfold I64; omega)
            have HMB := Lib.hid (show ∀ ad, m.a = some ad → w.heap.size ≤ ad.block from fun ad had => Nat.le_trans HBW.out.size (hmap ad.block (by rw [had]; rfl)))
            clear hS6 hB6 h2 hSG hmb hmap hmv hml hco hok hdat hcl2 hgm
            go_wp2_with (rw [HS6.out, ← HB6.out]; refine Grow.append E5 S6 (.tmp 49) (.tmp 51) ?_ ?_ ?_ ⟨B6, 0, none⟩ 1 1 (Cmd.cells m) ?_ ?_ hcell (one_cells _) hE63 hEb ?_; rfl; rfl; rfl; rfl; rfl; intro v' S7)
            have HR := Lib.hid (CmdRow.snoc (x := []) (b := none) (capx := 0) S7 HOK.out.1 HOK.out.2.1 HOK.out.2.2 HI64.out HM.out.2.2.2.1 (fun _ ad had => HMB.out ad had))
            have HI2 : Hid (MrgOut w cs j v' S7.w) := Lib.hid ⟨by rw [← HCC.out]; exact hjc, done ++ [m.core], by rw [List.append_assoc]; exact hstep2.out, by rw [List.length_append, List.length_singleton]; have := HDL.out; have := HM.out.1; omega, HR.out⟩
            clear hcell HR
            generalize S7.w = W7 at HI2 ⊢
            go_roundw
            case rel => exact ⟨_, _, _, _, _, _, _, _, _, _, _, _, _, _, _, _, _, _, _, _, _, _, _, _, _, _, _, _, _, _, _, _, _, _, _, _, _, _, _, _, _, _, _, _, _, _, _, _, _, _, ⟨j, rfl, HI2⟩, rfl⟩
            case measure => have := HM.out.1; simp [intOf]; omega
        · obtain rfl : j = CC := by omega
          have hstep2 : Hid (done ++ ([m.core] ++ mergeL (cores (cs.drop j))) = mergeL (cores cs)) := Lib.hid (by
            have h1 := HM.out.2.1
            rw [mergeF_end (by rw [HCC.out]; omega)] at h1
            exact h1)
          obtain ⟨R2⟩ := HRL.out S.w S.below
          obtain ⟨hml, ma, mcap, hmv, hmb⟩ := S.bytes (v := .slice m.a m.l.length m.cap) (n := m.l.length) (l := m.l) (by simp)
          obtain ⟨rfl, rfl⟩ : m.a = ma ∧ m.cap = mcap := by cases hmv; exact ⟨rfl, rfl⟩
          have hmap : ∀ g, (Value.slice m.a m.l.length m.cap).ownBlock = some g → wr.heap.size ≤ g := fun g hg => ((S.rows ⟨5, 1, .slice m.a m.l.length m.cap, m.l.length, m.l.map (Value.int .u8)⟩ (by simp)).lt g hg).1
          obtain ⟨cs2, els2, SG, hSG, hco, hok, hdat⟩ := R2
          have hcl2 : cs2.length ≤ 1000 := by
            have h1 := HDL.out
            rw [← hco] at h1
            unfold cores at h1
            rw [List.length_map] at h1
            omega
          have HOK := Lib.hid (And.intro hco (And.intro hok hdat))
          have hEb : (cs2.length + 1) * E5.bytes ≤ 140737488355328 := by rw [HE5.out]; omega
          have hE63 : cs2.length + 1 ≤ maxLen := by unfold maxLen; omega
          rw [hSG] at hmb
          obtain ⟨SG2, h2⟩ := SG.addEl (m.a, m.l, m.cap) hmb (fun _ ad had => ⟨fun hg => by
            have q1 := HOWN.out _ hg
            have q2 := hmap ad.block (by simp only at had; rw [had]; rfl)
            omega, fun h => by cases h⟩)
          obtain ⟨B6, S6, hB6, hS6⟩ := SG2.more (.cells (Cmd.cells m).toArray 26 (0, 0))
          have HS6 : Hid (S.w.alloc (.cells #[.int .i64 m.k, .int .i64 m.t, .int .i64 m.f, .int .i64 m.n, .slice m.a m.l.length m.cap] 26 (0, 0)) = S6.w) := Lib.hid (by rw [hSG, h2]; exact hS6)
          have HB6 := Lib.hid (show B6 = S.w.heap.size by rw [hSG, h2]; exact hB6)
          have hcell : ∀ (j : Nat) (u : Value), (Cmd.cells m)[j]? = some u → S6.w.cell? ((⟨B6, 0, none⟩ : Addr).add j) = some u := fun j u hu => by
            rw [Addr.add_mid, Nat.zero_add, cell_of (S6.blocks (B6, .cells (Cmd.cells m).toArray 26 (0, 0)) (by simp)).1]
            simpa using hu
          have hgm := HM.out.2.2.1
          have HI64 := Lib.hid (show I64 m.k ∧ I64 m.t ∧ I64 m.f ∧ I64 m.n from by unfold GoodB Cmd.core at hgm; simp only at hgm; unfold I64; omega)
          have HMB := Lib.hid (show ∀ ad, m.a = some ad → w.heap.size ≤ ad.block from fun ad had => Nat.le_trans HBW.out.size (hmap ad.block (by rw [had]; rfl)))
          clear hS6 hB6 h2 hSG hmb hmap hmv hml hco hok hdat hcl2 hgm
          go_wp2_with (rw [HS6.out, ← HB6.out]; refine Grow.append E5 S6 (.tmp 49) (.tmp 51) ?_ ?_ ?_ ⟨B6, 0, none⟩ 1 1 (Cmd.cells m) ?_ ?_ hcell (one_cells _) hE63 hEb ?_; rfl; rfl; rfl; rfl; rfl; intro v' S7)
          have HR := Lib.hid (CmdRow.snoc (x := []) (b := none) (capx := 0) S7 HOK.out.1 HOK.out.2.1 HOK.out.2.2 HI64.out HM.out.2.2.2.1 (fun _ ad had => HMB.out ad had))
          have HI2 : Hid (MrgOut w cs j v' S7.w) := Lib.hid ⟨by rw [← HCC.out]; omega, done ++ [m.core], by rw [List.append_assoc]; exact hstep2.out, by rw [List.length_append, List.length_singleton]; have := HDL.out; have := HM.out.1; omega, HR.out⟩
          clear hcell HR
          generalize S7.w = W7 at HI2 ⊢
          go_roundw
          case rel => exact ⟨_, _, _, _, _, _, _, _, _, _, _, _, _, _, _, _, _, _, _, _, _, _, _, _, _, _, _, _, _, _, _, _, _, _, _, _, _, _, _, _, _, _, _, _, _, _, _, _, _, _, ⟨j, rfl, HI2⟩, rfl⟩
          case measure => have := HM.out.1; simp [intOf]; omega
    · obtain rfl : i = CC := by omega
      have hfin : done = mergeL (cores cs) := by
        have h1 := hdone
        rw [HCC.out, List.drop_length] at h1
        simpa [cores, mergeL] using h1
      have HQ : Hid (POST (.returned u3) wr) := Lib.hid (HEND.out _ _ (hfin ▸ ⟨R⟩))
      clear hfin hdone hdl hbw R HI
      go_wp2
      exact HQ.out
end Go.Proofs.Ytgmjppjgbalapaa

/- equal of the reference of package patch. -/
namespace Go.Proofs.Ytgmjppjgbalapaa
open Go.RowKit
set_option linter.unusedVariables false
set_option linter.unusedSimpArgs false

end Go.Proofs.Ytgmjppjgbalapaa

/- match of the reference of package patch. -/
namespace Go.Proofs.Ytgmjppjgbalapaa
open Go.RowKit
set_option linter.unusedVariables false
set_option linter.unusedSimpArgs false

/-- What match returns. -/
def mq8 : Option (Nat × Nat) → Int × Int
  | some (q, n) => (q, n)
  | none => (-1, 0)
theorem comm_win {l x : List Int} {N j : Nat} (hx : N ≤ x.length) (hj : j + N ≤ l.length) : (wins N l)[j]? = some (x.take N) ↔ N ≤ comm (l.drop j) x := by
  rw [wins_get hj, comm_iff (by rw [List.length_drop]; omega) hx]
  constructor
  · intro h; exact Option.some.inj h
  · intro h; rw [h]
theorem findN_0 {l x : List Int} {N : Nat} (hN : 1 ≤ N) (hx : N ≤ x.length) : findN l x N 0 = if fidx (wins N l) (x.take N) = -1 then none else some ((fidx (wins N l) (x.take N)).toNat, comm (l.drop (fidx (wins N l) (x.take N)).toNat) x) := by
  unfold findN
  rw [if_neg (by omega), List.drop_zero, Int.toNat_natCast]
theorem match_yes {l x : List Int} {N q : Nat} (hN : 1 ≤ N) (hx : N ≤ x.length) (hq : q + N ≤ l.length) (hge : N ≤ comm (l.drop q) x) (hno : ∀ j, j < q → comm (l.drop j) x < N) : findN l x N 0 = some (q, comm (l.drop q) x) := by
  have hf : fidx (wins N l) (x.take N) = q := fidx_eq ((comm_win hx hq).2 hge) (fun j hj h => by
    have := (comm_win hx (j := j) (by omega)).1 h
    have := hno j hj
    omega)
  rw [findN_0 hN hx, hf, if_neg (by omega), Int.toNat_natCast]
theorem match_no {l x : List Int} {N : Nat} (hN : 1 ≤ N) (hx : N ≤ x.length) (hno : ∀ j, j + N ≤ l.length → comm (l.drop j) x < N) : findN l x N 0 = none := by
  rw [findN_0 hN hx]
  refine if_pos ?_
  rw [fidx_none]
  intro hm
  obtain ⟨j, hj, he⟩ := wins_mem hm hN
  have h1 : (wins N l)[j]? = some (x.take N) := by rw [wins_get hj, he]
  have := (comm_win hx hj).1 h1
  have := hno j hj
  omega

end Go.Proofs.Ytgmjppjgbalapaa

/- An append in place beside floating operations: rows of bytes. -/
namespace Go.Proofs.Ytgmjppjgbalapaa
open Go.RowKit
set_option linter.unusedVariables false
set_option linter.unusedSimpArgs false

/-- Rows with those cells keep them. -/
def ExtB8 (base at_ : Nat) (X Y : List Value) (W W' : World) : Prop := ∀ v n xs, (n = 0 ∧ xs = [] ∨ n = at_ ∧ xs = X ∨ n = 1 ∧ xs = Y ∨ n = at_ + 1 ∧ xs = X ++ Y) → W.ownsRow base 5 1 v n xs → W'.ownsRow base 5 1 v n xs
theorem extB8_below {base at_ : Nat} {X Y : List Value} {W W' : World} (h : Below W.heap.size W W') : ExtB8 base at_ X Y W W' := fun v n xs _ ho => own_later ho h

theorem append_ext8 {W0 W : World} (hC : Below W0.heap.size W0 W) {at_ : Nat} {X Y : List Value} {v : Value} (hv : W.ownsRow W0.heap.size 5 1 v at_ X) (ad : Addr) (c : Nat) (hY : Y.length = 1 * 1) (hnews : ∀ j u, Y[j]? = some u → W.cell? (ad.add j) = some u) (h1 : ∀ u ∈ Y, u.oneCell' = true) (hm : at_ ≤ 1000000) (ty : TypeId) :
    ∃ v' W', (Builtin.append_ #[24, 24] ty #[v, .slice (some ad) 1 c]).run Try.prog W = .ok v' W' ∧ W'.ownsRow W0.heap.size 5 1 v' (at_ + 1) (X ++ Y) ∧ Below W0.heap.size W0 W' ∧ ExtB8 W0.heap.size at_ X Y W W' := by
  obtain ⟨E, hE⟩ := elemW8
  obtain ⟨v', W', hrun, ho, hg, _⟩ := run_append_own (P := Try.prog) W W0.heap.size 24 ty 5 E.i E.z 1 E.bytes E.ht E.hi E.hz E.hsize E.hby E.hzs E.hsz v at_ X hv ad 1 c Y hY hnews h1 (by unfold maxLen; omega) (by rw [hE]; omega) hC.size
  refine ⟨v', W', hrun, ho, hC.grown hg hC.size (fun k hk => (hv.lt k hk).1), ?_⟩
  rcases hv.2 with ⟨rfl, h0⟩ | ⟨g, cap, cur, rfl, hbg, hgc, hnc, hcm, hcs, htake⟩
  · exact extB8_below ((Below.refl _ W).grown hg (Nat.le_refl _) (fun k hk => by cases hk))
  · by_cases hroom : at_ + 1 ≤ cap
    · have hl1 : Y.length = 1 * E.i.size := by rw [E.hsize, hY]
      have hr := run_append_room (P := Try.prog) W 24 ty 5 E.i E.ht E.hi g at_ cap cur hgc ad 1 c Y hl1 hnews h1 hroom (by rw [hl1, hcs, E.hsize, ← Nat.add_mul]; exact Nat.mul_le_mul_right _ hroom)
      rw [hr] at hrun
      injection hrun with h2 h3
      subst h3
      rw [E.hsize]
      intro u n xs hn hu
      refine ⟨hu.1, ?_⟩
      rcases hu.2 with h | ⟨g2, cap2, cur2, e1, e2, e3, e4, e5, e6, e7⟩
      · exact .inl h
      · right
        by_cases hgg : g2 = g
        · subst hgg
          obtain ⟨rfl, _⟩ : cur2 = cur ∧ True := by
            rw [hgc] at e3
            simp only [Option.some.injEq, Obj.cells.injEq] at e3
            exact ⟨e3.1.symm, trivial⟩
          have hxl : X.length = at_ * 1 := hv.1
          have hcl : cur2.toList.length = cap2 * 1 := by simpa using e6
          have hcc : cap2 = cap := by omega
          refine ⟨g2, cap2, _, e1, e2, setRow_heap _ _ _ _ _ _ e3, e4, e5, ?_, ?_⟩
          · simp only [List.size_toArray, List.length_append, List.length_take, List.length_drop, hY, hcl]
            omega
          · simp only [htake]
            rcases hn with ⟨rfl, rfl⟩ | ⟨rfl, rfl⟩ | ⟨rfl, rfl⟩ | ⟨rfl, rfl⟩
            · simp
            · rw [List.append_assoc, ← hxl, List.take_left]
            · by_cases ha : at_ = 0
              · subst ha
                have : X = [] := List.eq_nil_of_length_eq_zero (by omega)
                subst this
                rw [List.nil_append, ← hY, List.take_left]
              · rw [List.append_assoc, List.take_append_of_le_length (by omega), ← htake, List.take_take, Nat.min_eq_left (by omega)]
                exact e7
            · have : (at_ + 1) * 1 = (X ++ Y).length := by rw [List.length_append, hxl, hY]; omega
              rw [this, List.take_left]
        · exact ⟨g2, cap2, cur2, e1, e2, (setRow_other _ _ _ _ hgg).trans e3, e4, e5, e6, e7⟩
    · refine extB8_below ?_
      have hl1 : Y.length = 1 * E.i.size := by rw [E.hsize, hY]
      have hr := run_append_grow (P := Try.prog) W 24 ty 5 E.i E.z E.ht E.hi E.hz ⟨g, 0, none⟩ at_ cap X (by rw [E.hsize]; exact hv.1) (hv.cells (g := g) rfl) ad 1 c Y hl1 hnews (by omega) (by omega) (growslice_fits (by omega) (by rw [E.hby, hE]; omega))
      rw [hr] at hrun
      injection hrun with h2 h3
      subst h3
      exact (Below.refl _ W).drew.alloc (Nat.le_refl _) _


theorem ExtB8.refl (base at_ : Nat) (X Y : List Value) (W : World) : ExtB8 base at_ X Y W W := fun _ _ _ _ h => h
/-- A row of bytes of the call's own, with those cells. -/
def IsRowB (base n : Nat) (xs : List Value) : Value → World → Prop := fun v w => w.ownsRow base 5 1 v n xs
theorem stable_rowB (base at_ : Nat) (X Y : List Value) (n : Nat) (xs : List Value) (h : n = 0 ∧ xs = [] ∨ n = at_ ∧ xs = X ∨ n = 1 ∧ xs = Y ∨ n = at_ + 1 ∧ xs = X ++ Y) : Stable (ExtB8 base at_ X Y) (IsRowB base n xs) := fun v w w' ho hE => hE v n xs h ho
/-- A byte in a row of its own. -/
def IsBoxB (base : Nat) (y : Int) : Value → World → Prop := fun v w => ∃ B, v = .slice (some ⟨B, 0, none⟩) 1 1 ∧ w.ownsRow base 5 1 v 1 [.int .u8 y]
theorem stable_boxB (base at_ : Nat) (X : List Value) (y : Int) : Stable (ExtB8 base at_ X [.int .u8 y]) (IsBoxB base y) := fun v w w' ⟨B, h1, h2⟩ hE => ⟨B, h1, hE v 1 _ (.inr (.inr (.inl ⟨rfl, rfl⟩))) h2⟩
/-- An empty row of its own. -/
def IsNoneB (base : Nat) : Value → World → Prop := fun v w => ∃ B, v = .slice (some ⟨B, 0, none⟩) 0 0 ∧ base ≤ B ∧ w.ownsRow base 5 1 v 0 []
theorem stable_noneB (base at_ : Nat) (X Y : List Value) : Stable (ExtB8 base at_ X Y) (IsNoneB base) := fun v w w' ⟨B, h1, hb, h2⟩ hE => ⟨B, h1, hb, hE v 0 [] (.inl ⟨rfl, rfl⟩) h2⟩
end Go.Proofs.Ytgmjppjgbalapaa

/- Commands of the reference of package patch. -/
namespace Go.Proofs.Ytgmjppjgbalapaa
open Go.RowKit Go.Shelf
set_option linter.unusedVariables false
set_option linter.unusedSimpArgs false

/-- A row of the call's own, opened. -/
theorem Grow.form {w0 : World} {h : Option Nat} {bs : List (Nat × Obj)} {els : List Sl7} {e : TypeId} {size : Nat} {v : Value} {n : Nat} {xs : List Value} (S : Grow w0 h bs els e size v n xs) :
    ∃ A C, v = .slice A n C ∧ (0 < n → ∃ g, A = some ⟨g, 0, none⟩ ∧ w0.heap.size ≤ g ∧ n ≤ C ∧ C ≤ maxLen ∧ ∀ (W : World), W.heap[g]? = S.w.heap[g]? → (∀ (j : Nat) (u : Value), xs[j]? = some u → W.cell? ⟨g, j, none⟩ = some u) ∧ ∀ j, W.frozen? ⟨g, j, none⟩ = false) := by
  rcases S.own.2 with ⟨hv, h0⟩ | ⟨g, cap, cur, hv, hg, hb, hn, hc, hs, ht⟩
  · exact ⟨none, 0, by rw [hv, h0], fun hp => by omega⟩
  · refine ⟨some ⟨g, 0, none⟩, cap, hv, fun _ => ⟨g, rfl, hg, hn, hc, fun W hW => ⟨fun j u hu => ?_, fun j => free_of (hW.trans hb) j⟩⟩⟩
    rw [cell_of (hW.trans hb)]
    rw [← ht, List.getElem?_take] at hu
    split at hu
    · simpa using hu
    · cases hu
/-- A cell of the row is written. -/
theorem Grow.put {w0 : World} {bs : List (Nat × Obj)} {els : List Sl7} {e : TypeId} {size g C : Nat} {n : Nat} {xs : List Value} (S : Grow w0 none bs els e size (.slice (some ⟨g, 0, none⟩) n C) n xs) (i : Nat) (hi : i < n * size) (u : Value) :
    ∃ S' : Grow w0 none bs els e size (.slice (some ⟨g, 0, none⟩) n C) n (xs.set i u), S.w.setCell ⟨g, i, none⟩ u = S'.w := by
  obtain ⟨hl, hh⟩ := S.own
  rcases hh with ⟨hv, _⟩ | ⟨g', cap, cur, hv, hg, hb, hn, hc, hs, ht⟩
  · cases hv
  · cases hv
    have hoth : ∀ k, k ≠ g → (S.w.setCell ⟨g, i, none⟩ u).heap[k]? = S.w.heap[k]? := fun k hk => heap_setCell_other _ _ _ _ hk
    have hself := heap_setCell_same S.w g i cur e u hb
    refine ⟨⟨_, ?_, ⟨by rw [List.length_set]; exact hl, .inr ⟨g, C, cur.setIfInBounds i u, rfl, hg, hself, hn, hc, by simpa using hs, ?_⟩⟩, (fun g hg => by cases hg), (fun p hp => ?_), (fun p hp => ?_)⟩, rfl⟩
    · exact S.but.trans ⟨rfl, rfl, rfl, by simp [World.setCell], fun k hk _ => hoth k (by have := S.but.size; omega)⟩
    · rw [Array.toList_setIfInBounds, List.take_set, ht]
    · obtain ⟨h1, h2⟩ := S.blocks p hp
      exact ⟨(hoth _ (fun h => h2 (by simp [Value.ownBlock, h]))).trans h1, h2⟩
    · obtain ⟨h1, h2⟩ := S.el p hp
      exact ⟨bytes_keep h1 (fun hp ad had hlt => hoth _ (fun h => (h2 hp ad had).1 (by simp [Value.ownBlock, h]))), h2⟩
theorem flat5_put4 (cs : List Cmd) (c : Cmd) (l : List Int) (A : Option Addr) (C : Nat) : (flat5 (cs ++ [c])).set (cs.length * 5 + 4) (.slice A l.length C) = flat5 (cs ++ [(⟨c.k, c.t, c.f, c.n, l, A, C⟩ : Cmd)]) := by
  rw [flat5_append, flat5_append, List.set_append_right _ _ (by rw [flat5_length]; omega), flat5_length, show cs.length * 5 + 4 - cs.length * 5 = 4 by omega]
  rfl
theorem find_drop (l x : List Int) (block : Int) (p : Nat) (hp : p ≤ x.length) : findN l (x.drop p) block 0 = findN l x block p := by
  unfold findN
  rw [List.drop_zero, List.length_drop, show ((x.length - p : Nat) : Int) - ((0 : Nat) : Int) = (x.length : Int) - (p : Int) by omega]
/-- What the loop of the reference keeps. -/
structure RcLoop (w : World) (b : Option Addr) (l x : List Int) (capx : Nat) (block : Int) (P : Nat) (v : Value) (wr : World) : Prop where
  hP : P ≤ x.length
  row : ∃ (L0 : List Core8) (B k : Nat), B ≤ P ∧ x.length - P < k ∧ L0 ++ greedy (findN l x block) x k P B = makeC l x block ∧ (L0 = [] ∨ ∃ L1 c, L0 = L1 ++ [c] ∧ c.1 = 1) ∧ (L0 ++ litC x B P).length ≤ P ∧ Nonempty (CmdRow w b x capx (L0 ++ litC x B P) v wr)
theorem cores_snoc {cs : List Cmd} {L0 : List Core8} {c0 : Core8} (h : cores cs = L0 ++ [c0]) : ∃ cs0 c, cs = cs0 ++ [c] ∧ cores cs0 = L0 ∧ c.core = c0 := by
  have hne : cs ≠ [] := by
    rintro rfl
    simp [cores] at h
  refine ⟨cs.dropLast, cs.getLast hne, (List.dropLast_concat_getLast hne).symm, ?_⟩
  rw [← List.dropLast_concat_getLast hne] at h
  unfold cores at h ⊢
  rw [List.map_append] at h
  obtain ⟨h1, h2⟩ := List.append_inj' h rfl
  exact ⟨h1, by simpa using h2⟩

end Go.Proofs.Ytgmjppjgbalapaa

/- Rotations: math/bits.RotateLeft32, sha's right, the reference's rotate: one function of plain numbers. No condition but the ten amounts that SHA-256 uses. -/
namespace Go.Proofs.Ytgmjppjgbalapaa
open Go.RowKit
set_option linter.unusedVariables false

/-- A word rotated to the right. -/
def ror (x n : Int) : Int := bits .or .u32 (x / 2 ^ n.toNat) (x * 2 ^ (32 - n.toNat) % 4294967296)
theorem bits_or_comm (a b : Int) : bits .or .u32 a b = bits .or .u32 b a := by unfold bits; simp only [BitVec.or_comm]
/-- The amounts that are used. -/
def Amt (n : Int) : Prop := n = 2 ∨ n = 6 ∨ n = 7 ∨ n = 11 ∨ n = 13 ∨ n = 17 ∨ n = 18 ∨ n = 19 ∨ n = 22 ∨ n = 25

end Go.Proofs.Ytgmjppjgbalapaa
