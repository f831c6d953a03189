/- The reference's reader: a command. -/
import Derived.Test.YtefonhnidkfbgaaE07d20
import Derived.Test.YtefonhnidkfbgaaE07d18
namespace Go.Proofs.Ytefonhnidkfbgaa
open Go.RowKit
set_option linter.unusedVariables false
set_option linter.unusedSimpArgs false

/-- What the reference's command reads. -/
def cmd1R (D : List Int) (s : RS) : RS := if (uintR D 1 s).2.c = 0 ∧ (uintR D 1 s).1 ≠ 1 ∧ (uintR D 1 s).1 ≠ 2 then (uintR D 1 s).2.fail 11 s.n else (uintR D 1 s).2
def cmdR (D : List Int) (s : RS) : Core7 × RS :=
  if (uintR D 1 s).1 = 1 then ((1, (lengthR D (cmd1R D s)).1, (lengthR D (lengthR D (cmd1R D s)).2).1, (lengthR D (lengthR D (lengthR D (cmd1R D s)).2).2).1, []), (lengthR D (lengthR D (lengthR D (cmd1R D s)).2).2).2)
  else (((uintR D 1 s).1, (lengthR D (cmd1R D s)).1, 0, 0, (bytesR D (lengthR D (lengthR D (cmd1R D s)).2).1 (lengthR D (lengthR D (cmd1R D s)).2).2).1), (bytesR D (lengthR D (lengthR D (cmd1R D s)).2).1 (lengthR D (lengthR D (cmd1R D s)).2).2).2)
/-- It is the step. -/
theorem cmdR_step (D : List Int) (q : List Core7 × RS) : (cmdR D q.2).2 = (stepR D q).2 ∧ ((stepR D q).2.c = 0 → (stepR D q).1 = q.1 ++ [(cmdR D q.2).1]) := by
  unfold cmdR stepR
  by_cases k1 : (uintR D 1 q.2).1 = 1
  · have e : cmd1R D q.2 = (uintR D 1 q.2).2 := by unfold cmd1R; rw [if_neg (fun h => h.2.1 k1)]
    rw [if_pos k1, if_pos k1, e]
    exact ⟨rfl, fun _ => rfl⟩
  · rw [if_neg k1, if_neg k1]
    by_cases k2 : (uintR D 1 q.2).1 = 2
    · have e : cmd1R D q.2 = (uintR D 1 q.2).2 := by unfold cmd1R; rw [if_neg (fun h => h.2.2 k2)]
      rw [if_pos k2, e]
      refine ⟨rfl, fun _ => ?_⟩
      rw [k2]
    · rw [if_neg k2]
      have e : cmd1R D q.2 = (uintR D 1 q.2).2.fail 11 q.2.n := by
        unfold cmd1R
        by_cases hc : (uintR D 1 q.2).2.c = 0
        · rw [if_pos ⟨hc, k1, k2⟩]
        · rw [if_neg (fun h => hc h.1), fail_no7 _ _ hc]
      have hf : ((uintR D 1 q.2).2.fail 11 q.2.n).c ≠ 0 := fail_zero (by omega)
      rw [e]
      simp only [lengthR_no D hf, bytesR_no D _ hf]
      exact ⟨trivial, fun h => absurd h hf⟩

/-- A reader of the reference's in a world. -/
structure RRAt (w : World) (g : Nat) (da : Option Addr) (dcap : Nat) (D : List Int) (s : RS) : Prop where
  rd : w.heap[g]? = some (rrS s D.length da dcap)
  b : BytesIn w da D dcap
  pl : PlaceR D s
  ne : 0 < D.length → ∀ ad, da = some ad → ad.block ≠ g
  ok : OkB D
theorem RRAt.ne2 {w : World} {g : Nat} {da : Option Addr} {dcap : Nat} {D : List Int} {s : RS} (h : RRAt w g da dcap D s) : 0 < D.length → ∀ b o, da = some ⟨b, o, none⟩ → b ≠ g := fun hp b o e => h.ne hp _ e
theorem HeldX.more {w0 : World} {h : Nat} {bs : List (Nat × Obj)} (s : HeldX w0 h bs) (o : Obj) : ∃ S : HeldX w0 h ((s.w.heap.size, o) :: bs), s.w.alloc o = S.w := ⟨s.push o, rfl⟩
/-- A cell of the last listed block is written. -/
theorem HeldX.set3 {w0 : World} {h b : Nat} {p1 p2 : Nat × Obj} {cs cs' : Array Value} {t : TypeId} (S : HeldX w0 h [p1, p2, (b, .cells cs t (0, 0))]) (hb : w0.heap.size ≤ b) (h1 : p1.1 ≠ b) (h2 : p2.1 ≠ b) (i : Nat) (v : Value) (hcs : cs.setIfInBounds i v = cs') :
    ∃ S' : HeldX w0 h [p1, p2, (b, .cells cs' t (0, 0))], S.w.setCell ⟨b, i, none⟩ v = S'.w := by
  subst hcs
  refine ⟨⟨S.w.setCell ⟨b, i, none⟩ v, S.but.trans ⟨rfl, rfl, rfl, by simp [World.setCell], fun k hk hn => Below.heap_setCell _ _ _ _ (by simp only; omega)⟩, fun p hp => ?_⟩, rfl⟩
  simp only [List.mem_cons, List.not_mem_nil, or_false] at hp
  rcases hp with rfl | rfl | rfl
  · exact (Below.heap_setCell _ _ _ _ h1).trans (S.blocks p (by simp))
  · exact (Below.heap_setCell _ _ _ _ h2).trans (S.blocks p (by simp))
  · exact heap_setCell_same _ _ _ _ _ _ (S.blocks (b, .cells cs t (0, 0)) (by simp))
/-- The blocks of command: the reader, the result, the command. -/
abbrev KB (g : Nat) (D : List Int) (da : Option Addr) (dcap : Nat) (s : RS) (R C : Nat) (k t f n : Int) (v : Value) : List (Nat × Obj) := [(g, rrS s D.length da dcap), (R, cmdO 0 0 0 0 (.slice none 0 0)), (C, cmdO k t f n v)]

/-- What command hands back. -/
def RCmdPost (g : Nat) (o : Obj) (c : Core7) (da : Option Addr) (w : World) (e : Ending) (w' : World) : Prop :=
  ∃ A C, e = .returned (cmdV c.1 c.2.1 c.2.2.1 c.2.2.2.1 (.slice A c.2.2.2.2.length C)) ∧ But g w.heap.size w w' ∧ w'.heap[g]? = some o ∧ BytesIn w' A c.2.2.2.2 C ∧ (∀ ad, A = some ad → ∃ ad', da = some ad' ∧ ad'.block = ad.block)

section
variable {g dcap : Nat} {da : Option Addr} {D : List Int} {w : World}
theorem RRAt.X {s s' : RS} (h : RRAt w g da dcap D s) {bs : List (Nat × Obj)} (S : HeldX w g bs) (hm : (g, rrS s' D.length da dcap) ∈ bs) (hp : PlaceR D s') : RRAt S.w g da dcap D s' :=
  ⟨S.blocks _ hm, bytes_keep h.b fun hl ad had hlt => S.but.block _ hlt (h.ne hl ad had), hp, h.ne, h.ok⟩
theorem kb_len {s s' : RS} (h : RRAt w g da dcap D s) {R C : Nat} {k t f n : Int} {v : Value} (hp : PlaceR D s') (S : HeldX w g (KB g D da dcap s' R C k t f n v)) (hR : R ≠ g) (hC : C ≠ g) :
    Calls Try.prog 19 #[.pointer (some ⟨g, 0, none⟩)] S.w fun e w'' => e = .returned (.int .i64 (lengthR D s').1) ∧ ∃ S' : HeldX w g (KB g D da dcap (lengthR D s').2 R C k t f n v), w'' = S'.w := by
  have hr := h.X S List.mem_cons_self hp
  exact HeldX.puts (rrlength_all g dcap da D s' S.w hr.rd hp.n hr.b h.ok h.ne2) (.inl rfl) (all2 (Q := fun p : Nat × Obj => p.1 ≠ g) hR hC)
theorem kb_bytes {s s' : RS} (h : RRAt w g da dcap D s) {R C : Nat} {k t f n : Int} {v : Value} (hp : PlaceR D s') (j : Int) (S : HeldX w g (KB g D da dcap s' R C k t f n v)) (hR : R ≠ g) (hC : C ≠ g) :
    Calls Try.prog 20 #[.pointer (some ⟨g, 0, none⟩), .int .i64 j] S.w fun e w'' => ∃ A K, e = .returned (.slice A (bytesR D j s').1.length K) ∧ ∃ S' : HeldX w g (KB g D da dcap (bytesR D j s').2 R C k t f n v), w'' = S'.w ∧ BytesIn S'.w A (bytesR D j s').1 K ∧ (∀ ad, A = some ad → ∃ ad', da = some ad' ∧ ad'.block = ad.block) := by
  have hr := h.X S List.mem_cons_self hp
  refine (rrbytes_all g dcap da D s' S.w j hr.rd hp.n hr.b h.ne).mono ?_
  rintro e w'' ⟨A, K, rfl, hb, ho, hB, hA⟩
  refine ⟨A, K, rfl, ⟨w'', S.but.trans (hb.mono S.but.size), all3 ho ((hb.block _ (Array.getElem?_eq_some_iff.1 (S.blocks (R, cmdO 0 0 0 0 (.slice none 0 0)) (by simp))).1 hR).trans (S.blocks (R, cmdO 0 0 0 0 (.slice none 0 0)) (by simp))) ((hb.block _ (Array.getElem?_eq_some_iff.1 (S.blocks (C, cmdO k t f n v) (by simp))).1 hC).trans (S.blocks (C, cmdO k t f n v) (by simp)))⟩, rfl, hB, hA⟩
theorem kb_fail {s s' : RS} (h : RRAt w g da dcap D s) {R C : Nat} {k t f n : Int} {v : Value} (code at_ : Int) (S : HeldX w g (KB g D da dcap s' R C k t f n v)) (hR : R ≠ g) (hC : C ≠ g) :
    Calls Try.prog 18 #[.pointer (some ⟨g, 0, none⟩), .int .i64 code, .int .i64 at_] S.w fun e w'' => e = .returned (.tuple #[]) ∧ ∃ S' : HeldX w g (KB g D da dcap (s'.fail code at_) R C k t f n v), w'' = S'.w :=
  HeldX.puts (rrfail_all g dcap da s' S.w D.length code at_ (S.blocks (g, _) (by simp))) (.inl rfl) (all2 (Q := fun p : Nat × Obj => p.1 ≠ g) hR hC)
theorem kb_facts {s' : RS} {R C : Nat} {k t f n : Int} {v : Value} (S : HeldX w g (KB g D da dcap s' R C k t f n v)) :
    S.w.cell? ⟨g, 2, none⟩ = some (.int .i64 s'.c) ∧ S.w.cell? ⟨C, 0, none⟩ = some (.int .i64 k) ∧ S.w.cell? ⟨C, 1, none⟩ = some (.int .i64 t) ∧ S.w.cell? ⟨C, 2, none⟩ = some (.int .i64 f) ∧ S.w.cell? ⟨C, 3, none⟩ = some (.int .i64 n) ∧ S.w.cell? ⟨C, 4, none⟩ = some v ∧ ∀ i, S.w.frozen? ⟨C, i, none⟩ = false := by
  obtain ⟨h0, h1, h2, h3, h4⟩ := cmd_cells (S.blocks (C, cmdO k t f n v) (by simp))
  exact ⟨(rr_cells (S.blocks (g, rrS s' D.length da dcap) List.mem_cons_self)).2.2.1, h0, h1, h2, h3, h4, fun i => free_of (S.blocks (C, cmdO k t f n v) (by simp)) i⟩

set_option maxRecDepth 100000 in
set_option maxHeartbeats 8000000 in
theorem rcommand_copy (s : RS) (h : RRAt w g da dcap D s) (h0 : (uintR D 1 s).2.c = 0) (h1 : (uintR D 1 s).1 = 1) :
    Calls Try.prog 21 #[.pointer (some ⟨g, 0, none⟩)] w (RCmdPost g (rrS (cmdR D s).2 D.length da dcap) (cmdR D s).1 da w) := by
  have hgl := (Array.getElem?_eq_some_iff.1 h.rd).1
  have ec1 : cmd1R D s = (uintR D 1 s).2 := by unfold cmd1R; rw [if_neg (fun h => h.2.1 h1)]
  have ec : cmdR D s = ((1, (lengthR D (uintR D 1 s).2).1, (lengthR D (lengthR D (uintR D 1 s).2).2).1, (lengthR D (lengthR D (lengthR D (uintR D 1 s).2).2).2).1, []), (lengthR D (lengthR D (lengthR D (uintR D 1 s).2).2).2).2) := by unfold cmdR; rw [if_pos h1, ec1]
  rw [ec]
  have hpl := uintR_place 1 h.pl
  have hu : Hid (∀ S : HeldX w g [(g, rrS s D.length da dcap), (w.heap.size, cmdO 0 0 0 0 (.slice none 0 0))], Calls Try.prog 17 #[.pointer (some ⟨g, 0, none⟩), .int .i64 1] S.w fun e w'' => e = .returned (.int .u64 (uintR D 1 s).1) ∧ ∃ S' : HeldX w g [(g, rrS (uintR D 1 s).2 D.length da dcap), (w.heap.size, cmdO 0 0 0 0 (.slice none 0 0))], w'' = S'.w) := Lib.hid fun S => by
    have hr := h.X S List.mem_cons_self h.pl
    exact HeldX.puts (rruint_all g dcap da D s S.w 1 hr.rd h.pl.n hr.b h.ok h.ne2) (.inl rfl) (by simp; omega)
  obtain ⟨u, hue⟩ : ∃ u, u = uintR D 1 s := ⟨_, rfl⟩
  rw [← hue] at h0 h1 hpl hu ⊢
  obtain ⟨x, t⟩ := u
  simp only at h0 h1 hpl hu ⊢
  subst h1
  have hL := fun (t' : RS) (hp : PlaceR D t') (C : Nat) (k t f n : Int) (v : Value) (S : HeldX w g (KB g D da dcap t' w.heap.size C k t f n v)) (hC : C ≠ g) => kb_len h hp S (by omega) hC
  obtain ⟨a, ha⟩ : ∃ a, a = lengthR D t := ⟨_, rfl⟩
  obtain ⟨b, hb⟩ : ∃ b, b = lengthR D a.2 := ⟨_, rfl⟩
  obtain ⟨c, hc⟩ : ∃ c, c = lengthR D b.2 := ⟨_, rfl⟩
  rw [← ha, ← hb, ← hc]
  have hpa : PlaceR D a.2 := by rw [ha]; exact lengthR_place hpl
  have hpb : PlaceR D b.2 := by rw [hb]; exact lengthR_place hpa
  have HA : Hid (∀ (C : Nat) (S : HeldX w g (KB g D da dcap t w.heap.size C 1 0 0 0 (.slice none 0 0))), C ≠ g → Calls Try.prog 19 #[.pointer (some ⟨g, 0, none⟩)] S.w fun e w'' => e = .returned (.int .i64 a.1) ∧ ∃ S' : HeldX w g (KB g D da dcap a.2 w.heap.size C 1 0 0 0 (.slice none 0 0)), w'' = S'.w) := Lib.hid fun C S hC => by rw [ha]; exact hL t hpl C _ _ _ _ _ S hC
  have HB : Hid (∀ (C : Nat) (S : HeldX w g (KB g D da dcap a.2 w.heap.size C 1 a.1 0 0 (.slice none 0 0))), C ≠ g → Calls Try.prog 19 #[.pointer (some ⟨g, 0, none⟩)] S.w fun e w'' => e = .returned (.int .i64 b.1) ∧ ∃ S' : HeldX w g (KB g D da dcap b.2 w.heap.size C 1 a.1 0 0 (.slice none 0 0)), w'' = S'.w) := Lib.hid fun C S hC => by rw [hb]; exact hL a.2 hpa C _ _ _ _ _ S hC
  have HC : Hid (∀ (C : Nat) (S : HeldX w g (KB g D da dcap b.2 w.heap.size C 1 a.1 b.1 0 (.slice none 0 0))), C ≠ g → Calls Try.prog 19 #[.pointer (some ⟨g, 0, none⟩)] S.w fun e w'' => e = .returned (.int .i64 c.1) ∧ ∃ S' : HeldX w g (KB g D da dcap c.2 w.heap.size C 1 a.1 b.1 0 (.slice none 0 0)), w'' = S'.w) := Lib.hid fun C S hC => by rw [hc]; exact hL b.2 hpb C _ _ _ _ _ S hC
  obtain ⟨S1, hS1⟩ : ∃ S1 : HeldX w g [(g, rrS s D.length da dcap), (w.heap.size, cmdO 0 0 0 0 (.slice none 0 0))], w.alloc (cmdO 0 0 0 0 (.slice none 0 0)) = S1.w := ⟨⟨_, But.of_below ((Below.refl _ w).alloc (Nat.le_refl _) _), all2 (heap_old h.rd _) (heap_new w _ rfl)⟩, rfl⟩
  have c1 : S1.w.cell? ⟨g, 1, none⟩ = some (.int .i64 s.n) := (rr_cells (S1.blocks (g, rrS s D.length da dcap) List.mem_cons_self)).2.1
  clear hL ha hb hc hue h ec ec1 hpl hpa hpb
  go_enter Try.func21, Try.ntmps21
  go_wp2_with fail
  refine (hu.out S1).mono ?_
  rintro e _ ⟨rfl, S2, rfl⟩
  clear c1 hS1
  have hs2 := S2.but.size
  have hs2' := (Array.getElem?_eq_some_iff.1 (S2.blocks (w.heap.size, cmdO 0 0 0 0 (.slice none 0 0)) (by simp))).1
  obtain ⟨S3', hS3'⟩ := S2.more (cmdO 1 0 0 0 (.slice none 0 0))
  obtain ⟨S3, hS3⟩ : ∃ S3 : HeldX w g (KB g D da dcap t w.heap.size S2.w.heap.size 1 0 0 0 (.slice none 0 0)), S2.w.alloc (cmdO 1 0 0 0 (.slice none 0 0)) = S3.w := ⟨S3'.sub (by intro p hp; simp only [List.mem_cons, List.not_mem_nil, or_false] at hp ⊢; rcases hp with rfl | rfl | rfl <;> simp), hS3'⟩
  clear S3' hS3'
  have hBg : S2.w.heap.size ≠ g := by omega
  have hBw : S2.w.heap.size ≠ w.heap.size := by simp only at hs2'; omega
  have hBl : w.heap.size ≤ S2.w.heap.size := hs2
  have d2 : ∀ o, (S2.w.alloc o).cell? ⟨g, 2, none⟩ = some (.int .i64 0) := fun o => ((rr_cells (heap_old (S2.blocks (g, rrS t D.length da dcap) List.mem_cons_self) o)).2.2.1).trans (congrArg (fun z => some (Value.int .i64 z)) h0)
  have HS3 := Lib.hid hS3
  have hl := HA.out _ S3 hBg
  have HBC := Lib.hid (And.intro HB.out HC.out)
  clear HA HB HC hu hs2' hS3
  go_wp2_with fail
  rw [HS3.out]
  refine hl.mono ?_
  rintro e _ ⟨rfl, S4, rfl⟩
  clear hl d2
  obtain ⟨S5, hS5⟩ := S4.set3 hBl (Ne.symm hBg) (Ne.symm hBw) 1 (.int .i64 a.1) rfl
  obtain ⟨-, e0, e1, -, -, -, fr⟩ := kb_facts S4
  obtain ⟨-, e5, -⟩ := kb_facts S5
  have hl := HBC.out.1 _ S5 hBg
  go_wp2_with fail
  refine hl.mono ?_
  rintro e _ ⟨rfl, S6, rfl⟩
  clear hl hS5 e0 e1 fr e5
  obtain ⟨S7, hS7⟩ := S6.set3 hBl (Ne.symm hBg) (Ne.symm hBw) 2 (.int .i64 b.1) rfl
  obtain ⟨-, -, -, e2, -, -, fr⟩ := kb_facts S6
  have hl := HBC.out.2 _ S7 hBg
  go_wp2_with fail
  refine hl.mono ?_
  rintro e _ ⟨rfl, S8, rfl⟩
  clear hl hS7 e2 fr
  obtain ⟨S9, hS9⟩ := S8.set3 hBl (Ne.symm hBg) (Ne.symm hBw) 3 (.int .i64 c.1) rfl
  obtain ⟨-, -, -, -, e3, -, fr⟩ := kb_facts S8
  obtain ⟨-, f0, f1, f2, f3, f4, -⟩ := kb_facts S9
  have hrow : S9.w.heap[w.heap.size]? = some (.cells (cmdRow 0 0 0 0 (.slice none 0 0)) 58 (0, 0)) := S9.blocks (w.heap.size, cmdO 0 0 0 0 (.slice none 0 0)) (by simp)
  have hgb := S9.blocks (g, rrS c.2 D.length da dcap) List.mem_cons_self
  have HG := Lib.hid hgb
  clear hgb
  go_wp2_with (refine wpList_store_rowTo rfl 58 (.tmp 2) (.tmp 50) rfl rfl w.heap.size (cmdRow 1 a.1 b.1 c.1 (.slice none 0 0)) rfl rfl 58 (cmdRow 0 0 0 0 (.slice none 0 0)) hrow (cmdRow_size _ _ _ _ _) rfl (cmdRow_one _ _ _ _ _ _ _) ?_)
  refine bodyPost_ret (v := cmdV 1 a.1 b.1 c.1 (.slice none 0 0)) ?_ rfl ⟨none, 0, rfl, ?_, ?_, bytes_nilR _, fun ad h => by cases h⟩
  · exact results_cell_row Try.results21 _ _ w.heap.size 58 _ (0, 0) _ rfl (setRow_heap _ _ _ _ _ _ hrow) Try.underlying58 rfl (cmdRow_size _ _ _ _ _)
  · exact S9.but.trans ⟨rfl, rfl, rfl, by simp, fun k hk hn => setRow_other _ _ _ _ (by omega)⟩
  · rw [setRow_other _ _ _ _ (by omega)]
    exact HG.out
theorem uintR_zero {D : List Int} {k : Int} {s : RS} (h : (uintR D k s).2.c ≠ 0) : (uintR D k s).1 = 0 := by
  unfold uintR at h ⊢
  split
  · rfl
  · split
    · rfl
    · split
      · rfl
      · rename_i h1 h2 h3
        rw [if_neg h1, if_neg h2, if_neg h3] at h
        exact absurd rfl h

set_option maxRecDepth 100000 in
set_option maxHeartbeats 8000000 in
theorem rcommand_lit (s : RS) (h : RRAt w g da dcap D s) (h0 : (uintR D 1 s).2.c = 0) (hk : (uintR D 1 s).1 = 2) :
    Calls Try.prog 21 #[.pointer (some ⟨g, 0, none⟩)] w (RCmdPost g (rrS (cmdR D s).2 D.length da dcap) (cmdR D s).1 da w) := by
  have hgl := (Array.getElem?_eq_some_iff.1 h.rd).1
  have ec1 : cmd1R D s = (uintR D 1 s).2 := by unfold cmd1R; rw [if_neg (fun h => h.2.2 hk)]
  have hk1 : (uintR D 1 s).1 ≠ 1 := by omega
  have ec : cmdR D s = (((2, (lengthR D (cmd1R D s)).1, 0, 0, (bytesR D (lengthR D (lengthR D (cmd1R D s)).2).1 (lengthR D (lengthR D (cmd1R D s)).2).2).1) : Core7), (bytesR D (lengthR D (lengthR D (cmd1R D s)).2).1 (lengthR D (lengthR D (cmd1R D s)).2).2).2) := by unfold cmdR; rw [if_neg hk1, hk]
  rw [ec, ec1]
  have hpl := uintR_place 1 h.pl
  have hu : Hid (∀ S : HeldX w g [(g, rrS s D.length da dcap), (w.heap.size, cmdO 0 0 0 0 (.slice none 0 0))], Calls Try.prog 17 #[.pointer (some ⟨g, 0, none⟩), .int .i64 1] S.w fun e w'' => e = .returned (.int .u64 2) ∧ ∃ S' : HeldX w g [(g, rrS (uintR D 1 s).2 D.length da dcap), (w.heap.size, cmdO 0 0 0 0 (.slice none 0 0))], w'' = S'.w) := Lib.hid fun S => by
    have hr := h.X S List.mem_cons_self h.pl
    have := rruint_all g dcap da D s S.w 1 hr.rd h.pl.n hr.b h.ok h.ne2
    rw [show ((1 : Nat) : Int) = 1 from rfl, hk] at this
    exact HeldX.puts this (.inl rfl) (by simp; omega)
  obtain ⟨t, ht⟩ : ∃ t, t = (uintR D 1 s).2 := ⟨_, rfl⟩
  rw [← ht] at hpl hu h0 ⊢
  have hL := fun (t' : RS) (hp : PlaceR D t') (C : Nat) (k t f n : Int) (v : Value) (S : HeldX w g (KB g D da dcap t' w.heap.size C k t f n v)) (hC : C ≠ g) => kb_len h hp S (by omega) hC
  have hBy := fun (t' : RS) (hp : PlaceR D t') (j : Int) (C : Nat) (k t f n : Int) (v : Value) (S : HeldX w g (KB g D da dcap t' w.heap.size C k t f n v)) (hC : C ≠ g) => kb_bytes h hp j S (by omega) hC
  obtain ⟨t1, ht1⟩ : ∃ t1, t1 = t := ⟨_, rfl⟩
  rw [← ht1]
  have hpl1 : PlaceR D t1 := by rw [ht1]; exact hpl
  obtain ⟨a, ha⟩ : ∃ a, a = lengthR D t1 := ⟨_, rfl⟩
  obtain ⟨b, hb⟩ : ∃ b, b = lengthR D a.2 := ⟨_, rfl⟩
  obtain ⟨c, hc⟩ : ∃ c, c = bytesR D b.1 b.2 := ⟨_, rfl⟩
  rw [← ha, ← hb, ← hc]
  have hpa : PlaceR D a.2 := by rw [ha]; exact lengthR_place hpl1
  have hpb : PlaceR D b.2 := by rw [hb]; exact lengthR_place hpa
  have HF : Hid (∀ (C : Nat) (S : HeldX w g (KB g D da dcap t w.heap.size C 2 0 0 0 (.slice none 0 0))), C ≠ g → Calls Try.prog 18 #[.pointer (some ⟨g, 0, none⟩), .int .i64 11, .int .i64 s.n] S.w fun e w'' => e = .returned (.tuple #[]) ∧ ∃ S' : HeldX w g (KB g D da dcap (t.fail 11 s.n) w.heap.size C 2 0 0 0 (.slice none 0 0)), w'' = S'.w) := Lib.hid fun C S hC => kb_fail h 11 s.n S (by omega) hC
  have HA : Hid (∀ (C : Nat) (S : HeldX w g (KB g D da dcap t1 w.heap.size C 2 0 0 0 (.slice none 0 0))), C ≠ g → Calls Try.prog 19 #[.pointer (some ⟨g, 0, none⟩)] S.w fun e w'' => e = .returned (.int .i64 a.1) ∧ ∃ S' : HeldX w g (KB g D da dcap a.2 w.heap.size C 2 0 0 0 (.slice none 0 0)), w'' = S'.w) := Lib.hid fun C S hC => by rw [ha]; exact hL t1 hpl1 C _ _ _ _ _ S hC
  have HB : Hid (∀ (C : Nat) (S : HeldX w g (KB g D da dcap a.2 w.heap.size C 2 a.1 0 0 (.slice none 0 0))), C ≠ g → Calls Try.prog 19 #[.pointer (some ⟨g, 0, none⟩)] S.w fun e w'' => e = .returned (.int .i64 b.1) ∧ ∃ S' : HeldX w g (KB g D da dcap b.2 w.heap.size C 2 a.1 0 0 (.slice none 0 0)), w'' = S'.w) := Lib.hid fun C S hC => by rw [hb]; exact hL a.2 hpa C _ _ _ _ _ S hC
  have HC : Hid (∀ (C : Nat) (S : HeldX w g (KB g D da dcap b.2 w.heap.size C 2 a.1 0 0 (.slice none 0 0))), C ≠ g → Calls Try.prog 20 #[.pointer (some ⟨g, 0, none⟩), .int .i64 b.1] S.w fun e w'' => ∃ A K, e = .returned (.slice A c.1.length K) ∧ ∃ S' : HeldX w g (KB g D da dcap c.2 w.heap.size C 2 a.1 0 0 (.slice none 0 0)), w'' = S'.w ∧ BytesIn S'.w A c.1 K ∧ (∀ ad, A = some ad → ∃ ad', da = some ad' ∧ ad'.block = ad.block)) := Lib.hid fun C S hC => by rw [hc]; exact hBy b.2 hpb b.1 C _ _ _ _ _ S hC
  have HBX : Hid (∀ (bs : List (Nat × Obj)) (S : HeldX w g bs) (C : Nat) (i : Nat) (v : Value) (A : Option Addr) (K : Nat), w.heap.size ≤ C → (∀ ad, A = some ad → ∃ ad', da = some ad' ∧ ad'.block = ad.block) → BytesIn S.w A c.1 K → BytesIn ((S.w.setCell ⟨C, i, none⟩ v).setRow w.heap.size (cmdRow 2 a.1 0 0 (.slice A c.1.length K))) A c.1 K) := Lib.hid fun bs S C i v A K hC hA hB => bytes_keep hB fun hp ad had hlt => by
    obtain ⟨ad', h1, h2⟩ := hA ad had
    have hdl : ad'.block < w.heap.size := by
      obtain ⟨b0, o0, e0, hc0⟩ := h.b.cells (by
        by_cases h3 : 0 < D.length
        · exact h3
        · exfalso
          have : c.1 = [] := by
            have hl : D = [] := List.eq_nil_of_length_eq_zero (by omega)
            rw [hc, hl]
            unfold bytesR
            split
            · rfl
            · split
              · rfl
              · split
                · rfl
                · simp
          rw [this] at hp
          simp at hp)
      rw [h1] at e0
      cases e0
      exact World.block_lt_of_cell? _ _ (hc0 0 (by
        by_cases h3 : 0 < D.length
        · exact h3
        · exfalso
          have : c.1 = [] := by
            have hl : D = [] := List.eq_nil_of_length_eq_zero (by omega)
            rw [hc, hl]
            unfold bytesR
            split
            · rfl
            · split
              · rfl
              · split
                · rfl
                · simp
          rw [this] at hp
          simp at hp))
    rw [setRow_other _ _ _ _ (by omega)]
    exact Below.heap_setCell _ _ _ _ (by simp only; omega)
  obtain ⟨S1, hS1⟩ : ∃ S1 : HeldX w g [(g, rrS s D.length da dcap), (w.heap.size, cmdO 0 0 0 0 (.slice none 0 0))], w.alloc (cmdO 0 0 0 0 (.slice none 0 0)) = S1.w := ⟨⟨_, But.of_below ((Below.refl _ w).alloc (Nat.le_refl _) _), all2 (heap_old h.rd _) (heap_new w _ rfl)⟩, rfl⟩
  have c1 : S1.w.cell? ⟨g, 1, none⟩ = some (.int .i64 s.n) := (rr_cells (S1.blocks (g, rrS s D.length da dcap) List.mem_cons_self)).2.1
  have HT1 := Lib.hid ht1
  clear hL hBy ha hb hc h ec ec1 hpl hpl1 hpa hpb hk hk1 ht ht1
  go_enter Try.func21, Try.ntmps21
  go_wp2_with fail
  refine (hu.out S1).mono ?_
  rintro e _ ⟨rfl, S2, rfl⟩
  clear c1 hS1
  have hs2 := S2.but.size
  have hs2' := (Array.getElem?_eq_some_iff.1 (S2.blocks (w.heap.size, cmdO 0 0 0 0 (.slice none 0 0)) (by simp))).1
  obtain ⟨S3', hS3'⟩ := S2.more (cmdO 2 0 0 0 (.slice none 0 0))
  obtain ⟨S3, hS3⟩ : ∃ S3 : HeldX w g (KB g D da dcap t w.heap.size S2.w.heap.size 2 0 0 0 (.slice none 0 0)), S2.w.alloc (cmdO 2 0 0 0 (.slice none 0 0)) = S3.w := ⟨S3'.sub (by intro p hp; simp only [List.mem_cons, List.not_mem_nil, or_false] at hp ⊢; rcases hp with rfl | rfl | rfl <;> simp), hS3'⟩
  clear S3' hS3'
  have hBg : S2.w.heap.size ≠ g := by omega
  have hBw : S2.w.heap.size ≠ w.heap.size := by simp only at hs2'; omega
  have hBl : w.heap.size ≤ S2.w.heap.size := hs2
  have d2 : ∀ o, (S2.w.alloc o).cell? ⟨g, 2, none⟩ = some (.int .i64 0) := fun o => ((rr_cells (heap_old (S2.blocks (g, rrS t D.length da dcap) List.mem_cons_self) o)).2.2.1).trans (congrArg (fun z => some (Value.int .i64 z)) h0)
  have HS3 := Lib.hid hS3
  have HBC := Lib.hid (And.intro HB.out HC.out)
  clear HB HC hu hs2' hS3
  go_wp2_with fail
  rw [HS3.out]
  obtain rfl := HT1.out
  refine (HA.out _ S3 hBg).mono ?_
  rintro e _ ⟨rfl, S4, rfl⟩
  clear d2
  obtain ⟨S5, hS5⟩ := S4.set3 hBl (Ne.symm hBg) (Ne.symm hBw) 1 (.int .i64 a.1) rfl
  obtain ⟨-, e0, e1, -, -, -, fr⟩ := kb_facts S4
  obtain ⟨-, e5, -⟩ := kb_facts S5
  have hl := HBC.out.1 _ S5 hBg
  go_wp2_with fail
  refine hl.mono ?_
  rintro e _ ⟨rfl, S6, rfl⟩
  clear hl hS5 e0 e1 fr e5
  go_wp2_with fail
  refine (HBC.out.2 _ S6 hBg).mono ?_
  rintro e _ ⟨A, K, rfl, S8, rfl, hB8, hA8⟩
  obtain ⟨S9, hS9⟩ := S8.set3 hBl (Ne.symm hBg) (Ne.symm hBw) 4 (.slice A c.1.length K) rfl
  obtain ⟨-, -, -, -, -, e3, fr⟩ := kb_facts S8
  obtain ⟨-, f0, f1, f2, f3, f4, -⟩ := kb_facts S9
  have hrow : S9.w.heap[w.heap.size]? = some (.cells (cmdRow 0 0 0 0 (.slice none 0 0)) 58 (0, 0)) := S9.blocks (w.heap.size, cmdO 0 0 0 0 (.slice none 0 0)) (by simp)
  have hgb := S9.blocks (g, rrS c.2 D.length da dcap) List.mem_cons_self
  have HG := Lib.hid hgb
  have HX := HBX.out _ S8 S2.w.heap.size 4 (.slice A c.1.length K) A K hBl hA8 hB8
  rw [hS9] at HX
  have HXX := Lib.hid HX
  clear hgb HX hB8
  go_wp2_with (refine wpList_store_rowTo rfl 58 (.tmp 2) (.tmp 50) rfl rfl w.heap.size (cmdRow 2 a.1 0 0 (.slice A c.1.length K)) rfl rfl 58 (cmdRow 0 0 0 0 (.slice none 0 0)) hrow (cmdRow_size _ _ _ _ _) rfl (cmdRow_one _ _ _ _ _ _ _) ?_)
  refine bodyPost_ret (v := cmdV 2 a.1 0 0 (.slice A c.1.length K)) ?_ rfl ⟨A, K, rfl, ?_, ?_, HXX.out, hA8⟩
  · exact results_cell_row Try.results21 _ _ w.heap.size 58 _ (0, 0) _ rfl (setRow_heap _ _ _ _ _ _ hrow) Try.underlying58 rfl (cmdRow_size _ _ _ _ _)
  · exact S9.but.trans ⟨rfl, rfl, rfl, by simp, fun k hk hn => setRow_other _ _ _ _ (by omega)⟩
  · rw [setRow_other _ _ _ _ (by omega)]
    exact HG.out

set_option maxRecDepth 100000 in
set_option maxHeartbeats 8000000 in
theorem rcommand_bad (s : RS) (h : RRAt w g da dcap D s) (x : Int) (h0 : (uintR D 1 s).2.c = 0) (hk : (uintR D 1 s).1 = x) (hx1 : x ≠ 1) (hx2 : x ≠ 2) :
    Calls Try.prog 21 #[.pointer (some ⟨g, 0, none⟩)] w (RCmdPost g (rrS (cmdR D s).2 D.length da dcap) (cmdR D s).1 da w) := by
  have hgl := (Array.getElem?_eq_some_iff.1 h.rd).1
  have ec1 : cmd1R D s = (uintR D 1 s).2.fail 11 s.n := by unfold cmd1R; rw [if_pos ⟨h0, by rw [hk]; exact hx1, by rw [hk]; exact hx2⟩]
  have hk1 : (uintR D 1 s).1 ≠ 1 := by rw [hk]; exact hx1
  obtain ⟨-, -, -, -, hxa, hxb⟩ := uintR_enc h.ok (k := 1) h0
  have hxa' : 0 ≤ x := by rw [← hk]; exact hxa
  have hxb' : x < 256 := by rw [← hk]; exact hxb
  clear hxa hxb
  have hx3 : (x != 1) = true := by simpa using hx1
  have hx4 : (x != 2) = true := by simpa using hx2
  have hx5 : (x == 1) = false := by simpa using hx1
  have ec : cmdR D s = (((x, (lengthR D (cmd1R D s)).1, 0, 0, (bytesR D (lengthR D (lengthR D (cmd1R D s)).2).1 (lengthR D (lengthR D (cmd1R D s)).2).2).1) : Core7), (bytesR D (lengthR D (lengthR D (cmd1R D s)).2).1 (lengthR D (lengthR D (cmd1R D s)).2).2).2) := by unfold cmdR; rw [if_neg hk1, hk]
  rw [ec, ec1]
  have hpl := uintR_place 1 h.pl
  have hu : Hid (∀ S : HeldX w g [(g, rrS s D.length da dcap), (w.heap.size, cmdO 0 0 0 0 (.slice none 0 0))], Calls Try.prog 17 #[.pointer (some ⟨g, 0, none⟩), .int .i64 1] S.w fun e w'' => e = .returned (.int .u64 x) ∧ ∃ S' : HeldX w g [(g, rrS (uintR D 1 s).2 D.length da dcap), (w.heap.size, cmdO 0 0 0 0 (.slice none 0 0))], w'' = S'.w) := Lib.hid fun S => by
    have hr := h.X S List.mem_cons_self h.pl
    have := rruint_all g dcap da D s S.w 1 hr.rd h.pl.n hr.b h.ok h.ne2
    rw [show ((1 : Nat) : Int) = 1 from rfl, hk] at this
    exact HeldX.puts this (.inl rfl) (by simp; omega)
  obtain ⟨t, ht⟩ : ∃ t, t = (uintR D 1 s).2 := ⟨_, rfl⟩
  rw [← ht] at hpl hu h0 ⊢
  have hL := fun (t' : RS) (hp : PlaceR D t') (C : Nat) (k t f n : Int) (v : Value) (S : HeldX w g (KB g D da dcap t' w.heap.size C k t f n v)) (hC : C ≠ g) => kb_len h hp S (by omega) hC
  have hBy := fun (t' : RS) (hp : PlaceR D t') (j : Int) (C : Nat) (k t f n : Int) (v : Value) (S : HeldX w g (KB g D da dcap t' w.heap.size C k t f n v)) (hC : C ≠ g) => kb_bytes h hp j S (by omega) hC
  obtain ⟨t1, ht1⟩ : ∃ t1, t1 = t.fail 11 s.n := ⟨_, rfl⟩
  rw [← ht1]
  have hpl1 : PlaceR D t1 := by rw [ht1]; exact hpl.fail 11 s.n ⟨by omega, by have := h.pl.n; omega⟩
  obtain ⟨a, ha⟩ : ∃ a, a = lengthR D t1 := ⟨_, rfl⟩
  obtain ⟨b, hb⟩ : ∃ b, b = lengthR D a.2 := ⟨_, rfl⟩
  obtain ⟨c, hc⟩ : ∃ c, c = bytesR D b.1 b.2 := ⟨_, rfl⟩
  rw [← ha, ← hb, ← hc]
  have hpa : PlaceR D a.2 := by rw [ha]; exact lengthR_place hpl1
  have hpb : PlaceR D b.2 := by rw [hb]; exact lengthR_place hpa
  have HF : Hid (∀ (C : Nat) (S : HeldX w g (KB g D da dcap t w.heap.size C x 0 0 0 (.slice none 0 0))), C ≠ g → Calls Try.prog 18 #[.pointer (some ⟨g, 0, none⟩), .int .i64 11, .int .i64 s.n] S.w fun e w'' => e = .returned (.tuple #[]) ∧ ∃ S' : HeldX w g (KB g D da dcap t1 w.heap.size C x 0 0 0 (.slice none 0 0)), w'' = S'.w) := Lib.hid fun C S hC => by rw [ht1]; exact kb_fail h 11 s.n S (by omega) hC
  have HA : Hid (∀ (C : Nat) (S : HeldX w g (KB g D da dcap t1 w.heap.size C x 0 0 0 (.slice none 0 0))), C ≠ g → Calls Try.prog 19 #[.pointer (some ⟨g, 0, none⟩)] S.w fun e w'' => e = .returned (.int .i64 a.1) ∧ ∃ S' : HeldX w g (KB g D da dcap a.2 w.heap.size C x 0 0 0 (.slice none 0 0)), w'' = S'.w) := Lib.hid fun C S hC => by rw [ha]; exact hL t1 hpl1 C _ _ _ _ _ S hC
  have HB : Hid (∀ (C : Nat) (S : HeldX w g (KB g D da dcap a.2 w.heap.size C x a.1 0 0 (.slice none 0 0))), C ≠ g → Calls Try.prog 19 #[.pointer (some ⟨g, 0, none⟩)] S.w fun e w'' => e = .returned (.int .i64 b.1) ∧ ∃ S' : HeldX w g (KB g D da dcap b.2 w.heap.size C x a.1 0 0 (.slice none 0 0)), w'' = S'.w) := Lib.hid fun C S hC => by rw [hb]; exact hL a.2 hpa C _ _ _ _ _ S hC
  have HC : Hid (∀ (C : Nat) (S : HeldX w g (KB g D da dcap b.2 w.heap.size C x a.1 0 0 (.slice none 0 0))), C ≠ g → Calls Try.prog 20 #[.pointer (some ⟨g, 0, none⟩), .int .i64 b.1] S.w fun e w'' => ∃ A K, e = .returned (.slice A c.1.length K) ∧ ∃ S' : HeldX w g (KB g D da dcap c.2 w.heap.size C x a.1 0 0 (.slice none 0 0)), w'' = S'.w ∧ BytesIn S'.w A c.1 K ∧ (∀ ad, A = some ad → ∃ ad', da = some ad' ∧ ad'.block = ad.block)) := Lib.hid fun C S hC => by rw [hc]; exact hBy b.2 hpb b.1 C _ _ _ _ _ S hC
  have HBX : Hid (∀ (bs : List (Nat × Obj)) (S : HeldX w g bs) (C : Nat) (i : Nat) (v : Value) (A : Option Addr) (K : Nat), w.heap.size ≤ C → (∀ ad, A = some ad → ∃ ad', da = some ad' ∧ ad'.block = ad.block) → BytesIn S.w A c.1 K → BytesIn ((S.w.setCell ⟨C, i, none⟩ v).setRow w.heap.size (cmdRow x a.1 0 0 (.slice A c.1.length K))) A c.1 K) := Lib.hid fun bs S C i v A K hC hA hB => bytes_keep hB fun hp ad had hlt => by
    obtain ⟨ad', h1, h2⟩ := hA ad had
    have hdl : ad'.block < w.heap.size := by
      obtain ⟨b0, o0, e0, hc0⟩ := h.b.cells (by
        by_cases h3 : 0 < D.length
        · exact h3
        · exfalso
          have : c.1 = [] := by
            have hl : D = [] := List.eq_nil_of_length_eq_zero (by omega)
            rw [hc, hl]
            unfold bytesR
            split
            · rfl
            · split
              · rfl
              · split
                · rfl
                · simp
          rw [this] at hp
          simp at hp)
      rw [h1] at e0
      cases e0
      exact World.block_lt_of_cell? _ _ (hc0 0 (by
        by_cases h3 : 0 < D.length
        · exact h3
        · exfalso
          have : c.1 = [] := by
            have hl : D = [] := List.eq_nil_of_length_eq_zero (by omega)
            rw [hc, hl]
            unfold bytesR
            split
            · rfl
            · split
              · rfl
              · split
                · rfl
                · simp
          rw [this] at hp
          simp at hp))
    rw [setRow_other _ _ _ _ (by omega)]
    exact Below.heap_setCell _ _ _ _ (by simp only; omega)
  obtain ⟨S1, hS1⟩ : ∃ S1 : HeldX w g [(g, rrS s D.length da dcap), (w.heap.size, cmdO 0 0 0 0 (.slice none 0 0))], w.alloc (cmdO 0 0 0 0 (.slice none 0 0)) = S1.w := ⟨⟨_, But.of_below ((Below.refl _ w).alloc (Nat.le_refl _) _), all2 (heap_old h.rd _) (heap_new w _ rfl)⟩, rfl⟩
  have c1 : S1.w.cell? ⟨g, 1, none⟩ = some (.int .i64 s.n) := (rr_cells (S1.blocks (g, rrS s D.length da dcap) List.mem_cons_self)).2.1
  have HT1 := Lib.hid ht1
  clear hL hBy ha hb hc h ec ec1 hpl hpl1 hpa hpb hk hk1 ht ht1
  go_enter Try.func21, Try.ntmps21
  go_wp2_with fail
  refine (hu.out S1).mono ?_
  rintro e _ ⟨rfl, S2, rfl⟩
  clear c1 hS1
  have hs2 := S2.but.size
  have hs2' := (Array.getElem?_eq_some_iff.1 (S2.blocks (w.heap.size, cmdO 0 0 0 0 (.slice none 0 0)) (by simp))).1
  obtain ⟨S3', hS3'⟩ := S2.more (cmdO x 0 0 0 (.slice none 0 0))
  obtain ⟨S3, hS3⟩ : ∃ S3 : HeldX w g (KB g D da dcap t w.heap.size S2.w.heap.size x 0 0 0 (.slice none 0 0)), S2.w.alloc (cmdO x 0 0 0 (.slice none 0 0)) = S3.w := ⟨S3'.sub (by intro p hp; simp only [List.mem_cons, List.not_mem_nil, or_false] at hp ⊢; rcases hp with rfl | rfl | rfl <;> simp), hS3'⟩
  clear S3' hS3'
  have hBg : S2.w.heap.size ≠ g := by omega
  have hBw : S2.w.heap.size ≠ w.heap.size := by simp only at hs2'; omega
  have hBl : w.heap.size ≤ S2.w.heap.size := hs2
  have d2 : ∀ o, (S2.w.alloc o).cell? ⟨g, 2, none⟩ = some (.int .i64 0) := fun o => ((rr_cells (heap_old (S2.blocks (g, rrS t D.length da dcap) List.mem_cons_self) o)).2.2.1).trans (congrArg (fun z => some (Value.int .i64 z)) h0)
  have HS3 := Lib.hid hS3
  have HBC := Lib.hid (And.intro HB.out HC.out)
  clear HB HC hu hs2' hS3
  go_wp2_with fail
  rw [HS3.out]
  refine (HF.out _ S3 hBg).mono ?_
  rintro e _ ⟨rfl, S3b, rfl⟩
  obtain ⟨-, e0, -⟩ := kb_facts S3b
  go_wp2_with fail
  refine (HA.out _ S3b hBg).mono ?_
  rintro e _ ⟨rfl, S4, rfl⟩
  clear e0
  clear d2
  obtain ⟨S5, hS5⟩ := S4.set3 hBl (Ne.symm hBg) (Ne.symm hBw) 1 (.int .i64 a.1) rfl
  obtain ⟨-, e0, e1, -, -, -, fr⟩ := kb_facts S4
  obtain ⟨-, e5, -⟩ := kb_facts S5
  have hl := HBC.out.1 _ S5 hBg
  go_wp2_with fail
  refine hl.mono ?_
  rintro e _ ⟨rfl, S6, rfl⟩
  clear hl hS5 e0 e1 fr e5
  go_wp2_with fail
  refine (HBC.out.2 _ S6 hBg).mono ?_
  rintro e _ ⟨A, K, rfl, S8, rfl, hB8, hA8⟩
  obtain ⟨S9, hS9⟩ := S8.set3 hBl (Ne.symm hBg) (Ne.symm hBw) 4 (.slice A c.1.length K) rfl
  obtain ⟨-, -, -, -, -, e3, fr⟩ := kb_facts S8
  obtain ⟨-, f0, f1, f2, f3, f4, -⟩ := kb_facts S9
  have hrow : S9.w.heap[w.heap.size]? = some (.cells (cmdRow 0 0 0 0 (.slice none 0 0)) 58 (0, 0)) := S9.blocks (w.heap.size, cmdO 0 0 0 0 (.slice none 0 0)) (by simp)
  have hgb := S9.blocks (g, rrS c.2 D.length da dcap) List.mem_cons_self
  have HG := Lib.hid hgb
  have HX := HBX.out _ S8 S2.w.heap.size 4 (.slice A c.1.length K) A K hBl hA8 hB8
  rw [hS9] at HX
  have HXX := Lib.hid HX
  clear hgb HX hB8
  go_wp2_with (refine wpList_store_rowTo rfl 58 (.tmp 2) (.tmp 50) rfl rfl w.heap.size (cmdRow x a.1 0 0 (.slice A c.1.length K)) rfl rfl 58 (cmdRow 0 0 0 0 (.slice none 0 0)) hrow (cmdRow_size _ _ _ _ _) rfl (cmdRow_one _ _ _ _ _ _ _) ?_)
  refine bodyPost_ret (v := cmdV x a.1 0 0 (.slice A c.1.length K)) ?_ rfl ⟨A, K, rfl, ?_, ?_, HXX.out, hA8⟩
  · exact results_cell_row Try.results21 _ _ w.heap.size 58 _ (0, 0) _ rfl (setRow_heap _ _ _ _ _ _ hrow) Try.underlying58 rfl (cmdRow_size _ _ _ _ _)
  · exact S9.but.trans ⟨rfl, rfl, rfl, by simp, fun k hk hn => setRow_other _ _ _ _ (by omega)⟩
  · rw [setRow_other _ _ _ _ (by omega)]
    exact HG.out

set_option maxRecDepth 100000 in
set_option maxHeartbeats 8000000 in
theorem rcommand_no (s : RS) (h : RRAt w g da dcap D s) (h0 : (uintR D 1 s).2.c ≠ 0) :
    Calls Try.prog 21 #[.pointer (some ⟨g, 0, none⟩)] w (RCmdPost g (rrS (cmdR D s).2 D.length da dcap) (cmdR D s).1 da w) := by
  have hgl := (Array.getElem?_eq_some_iff.1 h.rd).1
  have hk : (uintR D 1 s).1 = 0 := uintR_zero h0
  have ec1 : cmd1R D s = (uintR D 1 s).2 := by unfold cmd1R; rw [if_neg (fun h => h0 h.1)]
  have hk1 : (uintR D 1 s).1 ≠ 1 := by omega
  have ec : cmdR D s = (((0, (lengthR D (cmd1R D s)).1, 0, 0, (bytesR D (lengthR D (lengthR D (cmd1R D s)).2).1 (lengthR D (lengthR D (cmd1R D s)).2).2).1) : Core7), (bytesR D (lengthR D (lengthR D (cmd1R D s)).2).1 (lengthR D (lengthR D (cmd1R D s)).2).2).2) := by unfold cmdR; rw [if_neg hk1, hk]
  rw [ec, ec1]
  have hpl := uintR_place 1 h.pl
  have hu : Hid (∀ S : HeldX w g [(g, rrS s D.length da dcap), (w.heap.size, cmdO 0 0 0 0 (.slice none 0 0))], Calls Try.prog 17 #[.pointer (some ⟨g, 0, none⟩), .int .i64 1] S.w fun e w'' => e = .returned (.int .u64 0) ∧ ∃ S' : HeldX w g [(g, rrS (uintR D 1 s).2 D.length da dcap), (w.heap.size, cmdO 0 0 0 0 (.slice none 0 0))], w'' = S'.w) := Lib.hid fun S => by
    have hr := h.X S List.mem_cons_self h.pl
    have := rruint_all g dcap da D s S.w 1 hr.rd h.pl.n hr.b h.ok h.ne2
    rw [show ((1 : Nat) : Int) = 1 from rfl, hk] at this
    exact HeldX.puts this (.inl rfl) (by simp; omega)
  obtain ⟨t, ht⟩ : ∃ t, t = (uintR D 1 s).2 := ⟨_, rfl⟩
  rw [← ht] at hpl hu h0 ⊢
  have hL := fun (t' : RS) (hp : PlaceR D t') (C : Nat) (k t f n : Int) (v : Value) (S : HeldX w g (KB g D da dcap t' w.heap.size C k t f n v)) (hC : C ≠ g) => kb_len h hp S (by omega) hC
  have hBy := fun (t' : RS) (hp : PlaceR D t') (j : Int) (C : Nat) (k t f n : Int) (v : Value) (S : HeldX w g (KB g D da dcap t' w.heap.size C k t f n v)) (hC : C ≠ g) => kb_bytes h hp j S (by omega) hC
  obtain ⟨t1, ht1⟩ : ∃ t1, t1 = t := ⟨_, rfl⟩
  rw [← ht1]
  have hpl1 : PlaceR D t1 := by rw [ht1]; exact hpl
  obtain ⟨a, ha⟩ : ∃ a, a = lengthR D t1 := ⟨_, rfl⟩
  obtain ⟨b, hb⟩ : ∃ b, b = lengthR D a.2 := ⟨_, rfl⟩
  obtain ⟨c, hc⟩ : ∃ c, c = bytesR D b.1 b.2 := ⟨_, rfl⟩
  rw [← ha, ← hb, ← hc]
  have hpa : PlaceR D a.2 := by rw [ha]; exact lengthR_place hpl1
  have hpb : PlaceR D b.2 := by rw [hb]; exact lengthR_place hpa
  have HF : Hid (∀ (C : Nat) (S : HeldX w g (KB g D da dcap t w.heap.size C 0 0 0 0 (.slice none 0 0))), C ≠ g → Calls Try.prog 18 #[.pointer (some ⟨g, 0, none⟩), .int .i64 11, .int .i64 s.n] S.w fun e w'' => e = .returned (.tuple #[]) ∧ ∃ S' : HeldX w g (KB g D da dcap (t.fail 11 s.n) w.heap.size C 0 0 0 0 (.slice none 0 0)), w'' = S'.w) := Lib.hid fun C S hC => kb_fail h 11 s.n S (by omega) hC
  have HA : Hid (∀ (C : Nat) (S : HeldX w g (KB g D da dcap t1 w.heap.size C 0 0 0 0 (.slice none 0 0))), C ≠ g → Calls Try.prog 19 #[.pointer (some ⟨g, 0, none⟩)] S.w fun e w'' => e = .returned (.int .i64 a.1) ∧ ∃ S' : HeldX w g (KB g D da dcap a.2 w.heap.size C 0 0 0 0 (.slice none 0 0)), w'' = S'.w) := Lib.hid fun C S hC => by rw [ha]; exact hL t1 hpl1 C _ _ _ _ _ S hC
  have HB : Hid (∀ (C : Nat) (S : HeldX w g (KB g D da dcap a.2 w.heap.size C 0 a.1 0 0 (.slice none 0 0))), C ≠ g → Calls Try.prog 19 #[.pointer (some ⟨g, 0, none⟩)] S.w fun e w'' => e = .returned (.int .i64 b.1) ∧ ∃ S' : HeldX w g (KB g D da dcap b.2 w.heap.size C 0 a.1 0 0 (.slice none 0 0)), w'' = S'.w) := Lib.hid fun C S hC => by rw [hb]; exact hL a.2 hpa C _ _ _ _ _ S hC
  have HC : Hid (∀ (C : Nat) (S : HeldX w g (KB g D da dcap b.2 w.heap.size C 0 a.1 0 0 (.slice none 0 0))), C ≠ g → Calls Try.prog 20 #[.pointer (some ⟨g, 0, none⟩), .int .i64 b.1] S.w fun e w'' => ∃ A K, e = .returned (.slice A c.1.length K) ∧ ∃ S' : HeldX w g (KB g D da dcap c.2 w.heap.size C 0 a.1 0 0 (.slice none 0 0)), w'' = S'.w ∧ BytesIn S'.w A c.1 K ∧ (∀ ad, A = some ad → ∃ ad', da = some ad' ∧ ad'.block = ad.block)) := Lib.hid fun C S hC => by rw [hc]; exact hBy b.2 hpb b.1 C _ _ _ _ _ S hC
  have HBX : Hid (∀ (bs : List (Nat × Obj)) (S : HeldX w g bs) (C : Nat) (i : Nat) (v : Value) (A : Option Addr) (K : Nat), w.heap.size ≤ C → (∀ ad, A = some ad → ∃ ad', da = some ad' ∧ ad'.block = ad.block) → BytesIn S.w A c.1 K → BytesIn ((S.w.setCell ⟨C, i, none⟩ v).setRow w.heap.size (cmdRow 0 a.1 0 0 (.slice A c.1.length K))) A c.1 K) := Lib.hid fun bs S C i v A K hC hA hB => bytes_keep hB fun hp ad had hlt => by
    obtain ⟨ad', h1, h2⟩ := hA ad had
    have hdl : ad'.block < w.heap.size := by
      obtain ⟨b0, o0, e0, hc0⟩ := h.b.cells (by
        by_cases h3 : 0 < D.length
        · exact h3
        · exfalso
          have : c.1 = [] := by
            have hl : D = [] := List.eq_nil_of_length_eq_zero (by omega)
            rw [hc, hl]
            unfold bytesR
            split
            · rfl
            · split
              · rfl
              · split
                · rfl
                · simp
          rw [this] at hp
          simp at hp)
      rw [h1] at e0
      cases e0
      exact World.block_lt_of_cell? _ _ (hc0 0 (by
        by_cases h3 : 0 < D.length
        · exact h3
        · exfalso
          have : c.1 = [] := by
            have hl : D = [] := List.eq_nil_of_length_eq_zero (by omega)
            rw [hc, hl]
            unfold bytesR
            split
            · rfl
            · split
              · rfl
              · split
                · rfl
                · simp
          rw [this] at hp
          simp at hp))
    rw [setRow_other _ _ _ _ (by omega)]
    exact Below.heap_setCell _ _ _ _ (by simp only; omega)
  obtain ⟨S1, hS1⟩ : ∃ S1 : HeldX w g [(g, rrS s D.length da dcap), (w.heap.size, cmdO 0 0 0 0 (.slice none 0 0))], w.alloc (cmdO 0 0 0 0 (.slice none 0 0)) = S1.w := ⟨⟨_, But.of_below ((Below.refl _ w).alloc (Nat.le_refl _) _), all2 (heap_old h.rd _) (heap_new w _ rfl)⟩, rfl⟩
  have c1 : S1.w.cell? ⟨g, 1, none⟩ = some (.int .i64 s.n) := (rr_cells (S1.blocks (g, rrS s D.length da dcap) List.mem_cons_self)).2.1
  have HT1 := Lib.hid ht1
  clear hL hBy ha hb hc h ec ec1 hpl hpl1 hpa hpb hk hk1 ht ht1
  go_enter Try.func21, Try.ntmps21
  go_wp2_with fail
  refine (hu.out S1).mono ?_
  rintro e _ ⟨rfl, S2, rfl⟩
  clear c1 hS1
  have hs2 := S2.but.size
  have hs2' := (Array.getElem?_eq_some_iff.1 (S2.blocks (w.heap.size, cmdO 0 0 0 0 (.slice none 0 0)) (by simp))).1
  obtain ⟨S3', hS3'⟩ := S2.more (cmdO 0 0 0 0 (.slice none 0 0))
  obtain ⟨S3, hS3⟩ : ∃ S3 : HeldX w g (KB g D da dcap t w.heap.size S2.w.heap.size 0 0 0 0 (.slice none 0 0)), S2.w.alloc (cmdO 0 0 0 0 (.slice none 0 0)) = S3.w := ⟨S3'.sub (by intro p hp; simp only [List.mem_cons, List.not_mem_nil, or_false] at hp ⊢; rcases hp with rfl | rfl | rfl <;> simp), hS3'⟩
  clear S3' hS3'
  have hBg : S2.w.heap.size ≠ g := by omega
  have hBw : S2.w.heap.size ≠ w.heap.size := by simp only at hs2'; omega
  have hBl : w.heap.size ≤ S2.w.heap.size := hs2
  have d2 : ∀ o, (S2.w.alloc o).cell? ⟨g, 2, none⟩ = some (.int .i64 t.c) := fun o => ((rr_cells (heap_old (S2.blocks (g, rrS t D.length da dcap) List.mem_cons_self) o)).2.2.1)
  have h0b : (t.c == 0) = false := by simpa using h0
  have HS3 := Lib.hid hS3
  have HBC := Lib.hid (And.intro HB.out HC.out)
  clear HB HC hu hs2' hS3
  go_wp2_with fail
  rw [HS3.out]
  obtain rfl := HT1.out
  refine (HA.out _ S3 hBg).mono ?_
  rintro e _ ⟨rfl, S4, rfl⟩
  clear d2
  obtain ⟨S5, hS5⟩ := S4.set3 hBl (Ne.symm hBg) (Ne.symm hBw) 1 (.int .i64 a.1) rfl
  obtain ⟨-, e0, e1, -, -, -, fr⟩ := kb_facts S4
  obtain ⟨-, e5, -⟩ := kb_facts S5
  have hl := HBC.out.1 _ S5 hBg
  go_wp2_with fail
  refine hl.mono ?_
  rintro e _ ⟨rfl, S6, rfl⟩
  clear hl hS5 e0 e1 fr e5
  go_wp2_with fail
  refine (HBC.out.2 _ S6 hBg).mono ?_
  rintro e _ ⟨A, K, rfl, S8, rfl, hB8, hA8⟩
  obtain ⟨S9, hS9⟩ := S8.set3 hBl (Ne.symm hBg) (Ne.symm hBw) 4 (.slice A c.1.length K) rfl
  obtain ⟨-, -, -, -, -, e3, fr⟩ := kb_facts S8
  obtain ⟨-, f0, f1, f2, f3, f4, -⟩ := kb_facts S9
  have hrow : S9.w.heap[w.heap.size]? = some (.cells (cmdRow 0 0 0 0 (.slice none 0 0)) 58 (0, 0)) := S9.blocks (w.heap.size, cmdO 0 0 0 0 (.slice none 0 0)) (by simp)
  have hgb := S9.blocks (g, rrS c.2 D.length da dcap) List.mem_cons_self
  have HG := Lib.hid hgb
  have HX := HBX.out _ S8 S2.w.heap.size 4 (.slice A c.1.length K) A K hBl hA8 hB8
  rw [hS9] at HX
  have HXX := Lib.hid HX
  clear hgb HX hB8
  go_wp2_with (refine wpList_store_rowTo rfl 58 (.tmp 2) (.tmp 50) rfl rfl w.heap.size (cmdRow 0 a.1 0 0 (.slice A c.1.length K)) rfl rfl 58 (cmdRow 0 0 0 0 (.slice none 0 0)) hrow (cmdRow_size _ _ _ _ _) rfl (cmdRow_one _ _ _ _ _ _ _) ?_)
  refine bodyPost_ret (v := cmdV 0 a.1 0 0 (.slice A c.1.length K)) ?_ rfl ⟨A, K, rfl, ?_, ?_, HXX.out, hA8⟩
  · exact results_cell_row Try.results21 _ _ w.heap.size 58 _ (0, 0) _ rfl (setRow_heap _ _ _ _ _ _ hrow) Try.underlying58 rfl (cmdRow_size _ _ _ _ _)
  · exact S9.but.trans ⟨rfl, rfl, rfl, by simp, fun k hk hn => setRow_other _ _ _ _ (by omega)⟩
  · rw [setRow_other _ _ _ _ (by omega)]
    exact HG.out

theorem rcommand_any (s : RS) (h : RRAt w g da dcap D s) : Calls Try.prog 21 #[.pointer (some ⟨g, 0, none⟩)] w (RCmdPost g (rrS (cmdR D s).2 D.length da dcap) (cmdR D s).1 da w) := by
  by_cases h0 : (uintR D 1 s).2.c = 0
  · by_cases h1 : (uintR D 1 s).1 = 1
    · exact rcommand_copy s h h0 h1
    · by_cases h2 : (uintR D 1 s).1 = 2
      · exact rcommand_lit s h h0 h2
      · exact rcommand_bad s h _ h0 rfl h1 h2
  · exact rcommand_no s h h0
end
end Go.Proofs.Ytefonhnidkfbgaa
