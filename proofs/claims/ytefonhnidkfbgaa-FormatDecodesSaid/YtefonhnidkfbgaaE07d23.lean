/- The reference's reader: Decode. -/
import Derived.Deep.Cut
import Derived.Deep.CutBlock
import Derived.Deep.CutRange
import Derived.Test.YtefonhnidkfbgaaE07d19
import Derived.Test.YtefonhnidkfbgaaE07d22
namespace Go.Proofs.Ytefonhnidkfbgaa
open Go.RowKit
set_option linter.unusedVariables false
set_option linter.unusedSimpArgs false

/-- The blocks of Decode: the reader, the result, the delta. -/
abbrev YB (w : World) (D : List Int) (da : Option Addr) (dcap : Nat) (s : RS) (A : Array Value) : List (Nat × Obj) := [(w.heap.size + 1, rrS s D.length da dcap), (w.heap.size, deltaO zeroDel), (w.heap.size + 1 + 1, deltaO A)]
abbrev YX (w : World) (D : List Int) (da : Option Addr) (dcap : Nat) (s : RS) (A : Array Value) := HeldW w (YB w D da dcap s A)
/-- What Decode hands back. -/
def RDecPost (D : List Int) (w : World) (e : Ending) (w' : World) : Prop :=
  ∃ (o n : Int) (x y : List Int) (cs : List Cmd) (a : Option Addr) (cap : Nat) (c p : Int), e = .returned (.tuple #[.agg (deltaA o n x y (.slice a cs.length cap)), .int .i64 c, .int .i64 p]) ∧ Below w.heap.size w w' ∧ CmdsIn w' a cs cap ∧ DecRes D o n x y cs c p
section
variable {w : World} {D : List Int} {da : Option Addr} {dcap : Nat} {s s' : RS} {A A' : Array Value}
theorem YX.at (S : YX w D da dcap s A) (hb : BytesIn w da D dcap) (ok : OkB D) (hp : PlaceR D s) (hd : ∀ ad, da = some ad → 0 < D.length → ad.block < w.heap.size) : RRAt S.w (w.heap.size + 1) da dcap D s :=
  ⟨S.blocks _ List.mem_cons_self, hb.below S.below, hp, fun h0 ad had => by have := hd ad had h0; omega, ok⟩
theorem YX.hne : ∀ p ∈ [(w.heap.size, deltaO zeroDel), (w.heap.size + 1 + 1, deltaO A)], p.1 ≠ w.heap.size + 1 := all2 (Q := fun p : Nat × Obj => p.1 ≠ w.heap.size + 1) (by simp only; omega) (by simp only; omega)
theorem YX.puts {P : Program} {f : FuncId} {args : Array Value} {v : Value} {S : YX w D da dcap s A} (hc : Calls P f args S.w (Puts (w.heap.size + 1) (rrS s' D.length da dcap) v S.w)) :
    Calls P f args S.w fun e w'' => e = .returned v ∧ ∃ S' : YX w D da dcap s' A, w'' = S'.w := HeldW.puts hc (by omega) YX.hne
theorem YX.piece {P : Program} {f : FuncId} {args : Array Value} {l : List Int} {S : YX w D da dcap s A} (hc : Calls P f args S.w (PiecePost (w.heap.size + 1) (rrS s' D.length da dcap) l da S.w)) :
    Calls P f args S.w fun e w'' => ∃ B C, e = .returned (.slice B l.length C) ∧ ∃ S' : YX w D da dcap s' A, w'' = S'.w ∧ BytesIn S'.w B l C ∧ (∀ ad, B = some ad → ∃ ad', da = some ad' ∧ ad'.block = ad.block) :=
  hc.mono fun _ w'' ⟨B, C, he, hb, ho, hB, hA⟩ => by
    refine ⟨B, C, he, ⟨w'', S.below.trans ⟨hb.os, hb.tape, hb.output, hb.size, fun k hk => hb.block k (Nat.lt_of_lt_of_le hk S.below.size) (by omega)⟩, List.forall_mem_cons.2 ⟨ho, fun p hp => ?_⟩⟩, rfl, hB, hA⟩
    have h1 := S.blocks p (List.mem_cons_of_mem _ hp)
    exact (hb.block _ (Array.getElem?_eq_some_iff.1 h1).1 (YX.hne p hp)).trans h1
theorem YX.facts (S : YX w D da dcap s A) : S.w.cell? ⟨w.heap.size + 1, 1, none⟩ = some (.int .i64 s.n) ∧ S.w.cell? ⟨w.heap.size + 1, 2, none⟩ = some (.int .i64 s.c) ∧ S.w.cell? ⟨w.heap.size + 1, 3, none⟩ = some (.int .i64 s.p) ∧ (∀ i, S.w.frozen? ⟨w.heap.size + 1 + 1, i, none⟩ = false) ∧ (∀ (i : Nat) (u : Value), A[i]? = some u → S.w.cell? ⟨w.heap.size + 1 + 1, i, none⟩ = some u) := by
  obtain ⟨-, h1, h2, h3⟩ := rr_cells (S.blocks (w.heap.size + 1, rrS s D.length da dcap) List.mem_cons_self)
  exact ⟨h1, h2, h3, fun i => free_of (S.blocks (w.heap.size + 1 + 1, deltaO A) (by simp)) i, fun i u hu => by rw [cell_of (S.blocks (w.heap.size + 1 + 1, deltaO A) (by simp))]; exact hu⟩
theorem YX.set (S : YX w D da dcap s A) (i : Nat) (u : Value) (hA : A.setIfInBounds i u = A') : ∃ S' : YX w D da dcap s A', S.w.setCell ⟨w.heap.size + 1 + 1, i, none⟩ u = S'.w := by
  subst hA
  refine ⟨⟨S.w.setCell ⟨w.heap.size + 1 + 1, i, none⟩ u, S.below.trans ⟨rfl, rfl, rfl, by simp [World.setCell], fun k hk => Below.heap_setCell _ _ _ _ (by simp only; omega)⟩, fun p hp => ?_⟩, rfl⟩
  simp only [List.mem_cons, List.not_mem_nil, or_false] at hp
  rcases hp with rfl | rfl | rfl
  · exact (Below.heap_setCell _ _ _ _ (by simp only; omega)).trans (S.blocks (w.heap.size + 1, rrS s D.length da dcap) (by simp))
  · exact (Below.heap_setCell _ _ _ _ (by simp only; omega)).trans (S.blocks (w.heap.size, deltaO zeroDel) (by simp))
  · exact heap_setCell_same _ _ _ _ _ _ (S.blocks (w.heap.size + 1 + 1, deltaO A) (by simp))
end

/-- What the loop keeps. -/
structure RLoop (w : World) (da : Option Addr) (dcap : Nat) (D : List Int) (o n : Int) (k : Nat) (q : List Core7 × RS) (wr : World) where
  cs : List Cmd
  els : List Sl7
  v : Value
  S : Grow w none (YB w D da dcap q.2 (deltaA o n zeros32 zeros32 v)) els 58 5 v cs.length (flat5 cs)
  eq : wr = S.w
  co : q.2.c = 0 → cores cs = q.1
  ok : ∀ c ∈ cs, (I64 c.k ∧ I64 c.t ∧ I64 c.f ∧ I64 c.n) ∧ OkB c.l ∧ (c.a, c.l, c.cap) ∈ els
  old : OldEls w els
  dat : (da, D, dcap) ∈ els
  pl : PlaceR D q.2
  len : cs.length ≤ k
theorem YX.start {w : World} {D : List Int} {da : Option Addr} {dcap : Nat} {s : RS} {o n : Int} (S : YX w D da dcap s (deltaA o n zeros32 zeros32 (.slice none 0 0))) (hb : BytesIn w da D dcap) (hd : ∀ ad, da = some ad → 0 < D.length → ad.block < w.heap.size) (hp : PlaceR D s) : Nonempty (RLoop w da dcap D o n 0 ([], s) S.w) :=
  ⟨⟨[], [(da, D, dcap)], .slice none 0 0, ⟨S.w, ButO.of_below S.below, World.ownsRow_nil _ _ _ _, (fun g hg => by cases hg), (fun p hp => ⟨S.blocks p hp, fun h => by simp [Value.ownBlock] at h⟩), (fun p hp => by
    obtain rfl := List.mem_singleton.1 hp
    exact ⟨hb.below S.below, fun hl ad had => ⟨fun h => by simp [Value.ownBlock] at h, fun h => by cases h⟩⟩)⟩, rfl, fun _ => rfl, fun c hc => by simp at hc, fun p hp hl ad had => by
    obtain rfl := List.mem_singleton.1 hp
    exact hd ad had hl, by simp, hp, by simp⟩⟩

theorem own_slice {W : World} {base n : Nat} {e : TypeId} {size : Nat} {v : Value} {xs : List Value} (h : W.ownsRow base e size v n xs) : ∃ a cap, v = .slice a n cap := by
  rcases h.2 with ⟨rfl, h0⟩ | ⟨g, cap, cur, rfl, _⟩
  · exact ⟨none, 0, by rw [h0]⟩
  · exact ⟨_, cap, rfl⟩
theorem RLoop.at {w : World} {da : Option Addr} {dcap : Nat} {D : List Int} {q : List Core7 × RS} {A : Array Value} {v : Value} {n : Nat} {xs : List Value} {els : List Sl7} (S : Grow w none (YB w D da dcap q.2 A) els 58 5 v n xs) (hold : OldEls w els) (hdat : (da, D, dcap) ∈ els) (hpl : PlaceR D q.2) (okD : OkB D) : RRAt S.w (w.heap.size + 1) da dcap D q.2 :=
  ⟨(S.blocks _ List.mem_cons_self).1, (S.el _ hdat).1, hpl, fun h0 ad had => by have := hold _ hdat h0 ad had; omega, okD⟩
theorem YB.facts {w : World} {da : Option Addr} {dcap : Nat} {D : List Int} {s : RS} {A : Array Value} {v : Value} {n : Nat} {xs : List Value} {els : List Sl7} (S : Grow w none (YB w D da dcap s A) els 58 5 v n xs) :
    S.w.cell? ⟨w.heap.size + 1, 1, none⟩ = some (.int .i64 s.n) ∧ S.w.cell? ⟨w.heap.size + 1, 2, none⟩ = some (.int .i64 s.c) ∧ S.w.cell? ⟨w.heap.size + 1, 3, none⟩ = some (.int .i64 s.p) ∧ (∀ i, S.w.frozen? ⟨w.heap.size + 1 + 1, i, none⟩ = false) ∧ (∀ (i : Nat) (u : Value), A[i]? = some u → S.w.cell? ⟨w.heap.size + 1 + 1, i, none⟩ = some u) := by
  obtain ⟨-, h1, h2, h3⟩ := rr_cells (S.blocks (w.heap.size + 1, rrS s D.length da dcap) List.mem_cons_self).1
  exact ⟨h1, h2, h3, fun i => free_of (S.blocks (w.heap.size + 1 + 1, deltaO A) (by simp)).1 i, fun i u hu => by rw [cell_of (S.blocks (w.heap.size + 1 + 1, deltaO A) (by simp)).1]; exact hu⟩

/-- A command in a new block is appended. -/
theorem cmd_appended (E : ElemS Try.prog 25 58 5) {w : World} {da : Option Addr} {dcap : Nat} {D : List Int} {s : RS} {A : Array Value} {v : Value} {n : Nat} {xs : List Value} {els : List Sl7} {B : Nat} {k t f m : Int} {u : Value} (S : Grow w none ((B, cmdO k t f m u) :: YB w D da dcap s A) els 58 5 v n xs) (h63 : n + 1 ≤ maxLen) (hb : (n + 1) * E.bytes ≤ 140737488355328) (hu : u.oneCell' = true) :
    ∃ v' w', (Builtin.append_ #[25, 25] 25 #[v, .slice (some ⟨B, 0, none⟩) 1 1]).run Try.prog S.w = .ok v' w' ∧ ∃ S' : Grow w none (YB w D da dcap s A) els 58 5 v' (n + 1) (xs ++ [.int .i64 k, .int .i64 t, .int .i64 f, .int .i64 m, u]), w' = S'.w ∧ ∀ (i : Nat) (z : Value), A[i]? = some z → S'.w.cell? ⟨w.heap.size + 1 + 1, i, none⟩ = some z ∧ S'.w.frozen? ⟨w.heap.size + 1 + 1, i, none⟩ = false := by
  have hc : ∀ (j : Nat) (x : Value), [Value.int .i64 k, .int .i64 t, .int .i64 f, .int .i64 m, u][j]? = some x → S.w.cell? ((⟨B, 0, none⟩ : Addr).add j) = some x := fun j x hx => by
    rw [Addr.add_mid, Nat.zero_add, cell_of (S.blocks (B, cmdO k t f m u) (by simp)).1]
    simpa using hx
  obtain ⟨v', w', hrun, S1, rfl⟩ := S.run_append E 25 ⟨B, 0, none⟩ 1 1 [.int .i64 k, .int .i64 t, .int .i64 f, .int .i64 m, u] rfl hc (fun x hx => by
    simp only [List.mem_cons, List.not_mem_nil, or_false] at hx
    rcases hx with rfl | rfl | rfl | rfl | rfl
    · rfl
    · rfl
    · rfl
    · rfl
    · exact hu) h63 hb
  obtain ⟨S2, h2⟩ := S1.sub (bs' := YB w D da dcap s A) (fun p hp => List.mem_cons_of_mem _ hp)
  exact ⟨v', _, hrun, S2, h2, fun i z hz => ⟨(YB.facts S2).2.2.2.2 i z hz, (YB.facts S2).2.2.2.1 i⟩⟩

theorem RLoop.next {w : World} {da : Option Addr} {dcap : Nat} {D : List Int} {o n : Int} {k : Nat} {q : List Core7 × RS} {m : Core7 × RS} {cs : List Cmd} {els : List Sl7} {v v' : Value} {A : Option Addr} {C : Nat}
    (S : Grow w none (YB w D da dcap m.2 (deltaA o n zeros32 zeros32 v)) ((A, m.1.2.2.2.2, C) :: els) 58 5 v' (cs.length + 1) (flat5 cs ++ [.int .i64 m.1.1, .int .i64 m.1.2.1, .int .i64 m.1.2.2.1, .int .i64 m.1.2.2.2.1, .slice A m.1.2.2.2.2.length C]))
    (hold : OldEls w ((A, m.1.2.2.2.2, C) :: els)) (hok : ∀ c ∈ cs, (I64 c.k ∧ I64 c.t ∧ I64 c.f ∧ I64 c.n) ∧ OkB c.l ∧ (c.a, c.l, c.cap) ∈ els) (hdat : (da, D, dcap) ∈ els) (hco : cores cs = q.1) (hq : m.2 = (stepR D q).2 ∧ ((stepR D q).2.c = 0 → (stepR D q).1 = q.1 ++ [m.1]))
    (hfit : (I64 m.1.1 ∧ I64 m.1.2.1 ∧ I64 m.1.2.2.1 ∧ I64 m.1.2.2.2.1) ∧ OkB m.1.2.2.2.2) (hpl : PlaceR D m.2) (hlen : cs.length ≤ k) :
    Nonempty (RLoop w da dcap D o n (k + 1) (stepR D q) (S.w.setCell ⟨w.heap.size + 1 + 1, 66, none⟩ v')) := by
  obtain ⟨S5, hS5⟩ := Grow.set3 (cs' := deltaA o n zeros32 zeros32 v') S (by omega) (by simp only; omega) (by simp only; omega) hold 66 v' (deltaA_set66 _ _ _ _ rfl rfl _ _)
  rw [hS5]
  have e1 : (YB w D da dcap m.2 (deltaA o n zeros32 zeros32 v')) = YB w D da dcap (stepR D q).2 (deltaA o n zeros32 zeros32 v') := by rw [hq.1]
  obtain ⟨S6, hS6⟩ := S5.sub (bs' := YB w D da dcap (stepR D q).2 (deltaA o n zeros32 zeros32 v')) (by rw [← e1]; exact fun p hp => hp)
  obtain ⟨S7, hS7⟩ := S6.conv (n' := (cs ++ [(⟨m.1.1, m.1.2.1, m.1.2.2.1, m.1.2.2.2.1, m.1.2.2.2.2, A, C⟩ : Cmd)]).length) (xs' := flat5 (cs ++ [(⟨m.1.1, m.1.2.1, m.1.2.2.1, m.1.2.2.2.1, m.1.2.2.2.2, A, C⟩ : Cmd)])) (by simp) (by rw [flat5_append]; simp [flat5, Cmd.cells])
  refine ⟨⟨_, _, v', S7, hS6.trans hS7, fun hc => ?_, fun d hd => ?_, hold, List.mem_cons_of_mem _ hdat, by rw [← hq.1]; exact hpl, by simp; omega⟩⟩
  · rw [hq.2 hc, ← hco]
    unfold cores
    rw [List.map_append]
    rfl
  · rcases List.mem_append.1 hd with hd | hd
    · obtain ⟨h1, h2, h3⟩ := hok d hd
      exact ⟨h1, h2, List.mem_cons_of_mem _ h3⟩
    · obtain rfl := List.mem_singleton.1 hd
      exact ⟨hfit.1, hfit.2, List.mem_cons_self⟩

theorem results_cell_12 {P : Program} {fn : Func} {p a b : Tmp} {ty : TypeId} (h : fn.results = #[.cell p ty, .tmp a, .tmp b]) (tmps : Array Value) (w : World) (g : Nat) (t : TypeId) (cs : Array Value) (fr : Nat × Nat) (d : TypeDesc) (u v : Value)
    (hp : tmps.getD p undef = .pointer (some ⟨g, 0, none⟩)) (ha : tmps.getD a undef = u) (hb : tmps.getD b undef = v) (hg : w.heap[g]? = some (.cells cs t fr))
    (hu : P.underlying ty = some d) (hd : (match d with | .struct _ | .array _ _ => true | _ => false) = true) (hi : (P.info? ty).map (·.size) = some cs.size) :
    (results fn tmps).run P w = .ok (.tuple #[.agg cs, u, v]) w := by
  have e1 : tmps[p]?.getD undef = .pointer (some ⟨g, 0, none⟩) := by simpa using hp
  have e2 : tmps[a]?.getD undef = u := by simpa using ha
  have e3 : tmps[b]?.getD undef = v := by simpa using hb
  simp [results, h, e1, e2, e3, asAddr, run_loadVar_row w g t ty cs fr d hg hu hd hi]
theorem old_bytes {w W1 W2 : World} {B : Option Addr} {l : List Int} {C : Nat} (h : BytesIn W1 B l C) (h1 : Below w.heap.size w W1) (hold : ∀ ad, 0 < l.length → B = some ad → ad.block < w.heap.size) (h2 : Below w.heap.size w W2) : BytesIn W2 B l C :=
  bytes_keep h fun hl ad had hlt => (h2.block _ (hold ad hl had)).trans (h1.block _ (hold ad hl had)).symm
/-- The end with a fault. -/
theorem rdec_no {w : World} {D : List Int} {da : Option Addr} {dcap : Nat} {q : List Core7 × RS} {o n : Int} {k : Nat} {fin : RS} {wr : World} (hb : Below w.heap.size w wr) (hf : fin.c = (endR D).c ∧ fin.p = (endR D).p) (hc : fin.c ≠ 0) :
    RDecPost D w (.returned (.tuple #[.agg zeroDel, .int .i64 fin.c, .int .i64 fin.p])) wr := by
  refine ⟨0, 0, zeros32, zeros32, [], none, 0, fin.c, fin.p, rfl, hb, cmds_none _, ?_⟩
  rw [hf.1, hf.2]
  exact dec_no (by rw [← hf.1]; exact hc)

set_option maxRecDepth 100000 in
set_option maxHeartbeats 8000000 in
theorem rdecode_any (D : List Int) (da : Option Addr) (dcap : Nat) (w : World) (hb : BytesIn w da D dcap) (okD : OkB D) :
    Calls Try.prog 6 #[.slice da D.length dcap] w (RDecPost D w) := by
  have hdb : ∀ ad, da = some ad → 0 < D.length → ad.block < w.heap.size := fun ad had hp => by
    obtain ⟨b, o, he, hc⟩ := hb.cells hp
    rw [he] at had
    cases had
    exact World.block_lt_of_cell? _ _ (hc 0 hp)
  have hz := zero_delta
  obtain ⟨S0, hS0⟩ : ∃ S : YX w D da dcap ⟨0, 0, 0⟩ zeroDel, ((w.alloc (deltaO zeroDel)).alloc (.cells #[.slice da D.length dcap, .int .i64 0, .int .i64 0, .int .i64 0] 50)).alloc (deltaO zeroDel) = S.w :=
    ⟨⟨_, (((Below.refl _ w).alloc (Nat.le_refl _) _).alloc (by simp) _).alloc (by simp; omega) _, fun p hp => by
      simp only [List.mem_cons, List.not_mem_nil, or_false] at hp
      rcases hp with rfl | rfl | rfl
      · exact heap_old (heap_new _ _ (by simp)) _
      · exact heap_old (heap_old (heap_new w _ rfl) _) _
      · exact heap_new _ _ (by simp)⟩, rfl⟩
  obtain ⟨S1, hS1⟩ := S0.after (w' := S0.w.alloc (.cells #[.int .u8 71, .int .u8 82, .int .u8 70, .int .u8 84] 5 (4, 5))) ((Below.refl _ _).alloc (Nat.le_refl _) _)
  have hS01 : (((w.alloc (deltaO zeroDel)).alloc (.cells #[.slice da D.length dcap, .int .i64 0, .int .i64 0, .int .i64 0] 50)).alloc (deltaO zeroDel)).alloc (.cells #[.int .u8 71, .int .u8 82, .int .u8 70, .int .u8 84] 5 (4, 5)) = S1.w := by rw [hS0, hS1]
  have HS1 := Lib.hid hS01
  have e3 : S0.w.heap.size = w.heap.size + 1 + 1 + 1 := by rw [← hS0]; simp
  have hlit : BytesIn S1.w (some ⟨w.heap.size + 1 + 1 + 1, 0, none⟩) [71, 82, 70, 84] 4 := bytes_lit (l := [71, 82, 70, 84]) (fr := (4, 5)) (by rw [← hS1, ← e3]; exact World.alloc_heap_new _ _) (by simp)
  have hcv : (convert 22 22 (.slice (some ⟨w.heap.size + 1 + 1 + 1, 0, none⟩) 4 4)).run Try.prog ((((w.alloc (deltaO zeroDel)).alloc (.cells #[.slice da D.length dcap, .int .i64 0, .int .i64 0, .int .i64 0] 50)).alloc (deltaO zeroDel)).alloc (.cells #[.int .u8 71, .int .u8 82, .int .u8 70, .int .u8 84] 5)) = .ok (.slice (some ⟨w.heap.size + 1 + 1 + 1, 0, none⟩) 4 4) ((((w.alloc (deltaO zeroDel)).alloc (.cells #[.slice da D.length dcap, .int .i64 0, .int .i64 0, .int .i64 0] 50)).alloc (deltaO zeroDel)).alloc (.cells #[.int .u8 71, .int .u8 82, .int .u8 70, .int .u8 84] 5 (4, 5))) := by
    have := Lib.run_convert_bytes_const (P := Try.prog) (((w.alloc (deltaO zeroDel)).alloc (.cells #[.slice da D.length dcap, .int .i64 0, .int .i64 0, .int .i64 0] 50)).alloc (deltaO zeroDel)) 22 5 #[.int .u8 71, .int .u8 82, .int .u8 70, .int .u8 84] 4 4 Try.underlying22 Try.underlying5
    simp only [World.size_alloc] at this
    exact this
  have hns : (storeCells ⟨w.heap.size + 1 + 1, 0, none⟩ zeroDel.toList).run Try.prog (((w.alloc (deltaO zeroDel)).alloc (.cells #[.slice da D.length dcap, .int .i64 0, .int .i64 0, .int .i64 0] 50)).alloc (deltaO zeroDel)) = .ok () (((w.alloc (deltaO zeroDel)).alloc (.cells #[.slice da D.length dcap, .int .i64 0, .int .i64 0, .int .i64 0] 50)).alloc (deltaO zeroDel)) := noop_store (heap_new _ _ (by simp))
  have hat := fun (s : RS) (A : Array Value) (S : YX w D da dcap s A) (hp : PlaceR D s) => S.at hb okD hp hdb
  have r0 := hat _ _ S1 ⟨Nat.zero_le _, ⟨by simp, by simp⟩, fun _ => rfl⟩
  have hE1 := YX.puts (S := S1) (rrexpect_all (w.heap.size + 1) dcap da D ⟨0, 0, 0⟩ S1.w [71, 82, 70, 84] _ 4 9 r0.rd r0.pl.n r0.b hlit okD (fun x hx => by simp at hx; omega))
  obtain ⟨t1, ht1⟩ : ∃ t, t = s1P D := ⟨_, rfl⟩
  have e1 : (expectR D [71, 82, 70, 84] 9 ⟨0, 0, 0⟩).2 = t1 := by rw [ht1]; rfl
  rw [e1] at hE1
  obtain ⟨u1, hu1⟩ : ∃ u, u = uintR D 1 t1 := ⟨_, rfl⟩
  obtain ⟨t2, ht2⟩ : ∃ t, t = s2R D := ⟨_, rfl⟩
  obtain ⟨r1, hr1⟩ : ∃ r, r = lengthR D t2 := ⟨_, rfl⟩
  obtain ⟨r2, hr2⟩ : ∃ r, r = lengthR D r1.2 := ⟨_, rfl⟩
  obtain ⟨r3, hr3⟩ : ∃ r, r = bytesR D 32 r2.2 := ⟨_, rfl⟩
  obtain ⟨r4, hr4⟩ : ∃ r, r = bytesR D 32 r3.2 := ⟨_, rfl⟩
  obtain ⟨r5, hr5⟩ : ∃ r, r = uintR D 4 r4.2 := ⟨_, rfl⟩
  have q1 : PlaceR D t1 := by rw [ht1]; exact s1P_place D
  have qu : PlaceR D u1.2 := by rw [hu1]; exact uintR_place 1 q1
  have et2 : t2 = if u1.2.c = 0 ∧ u1.1 ≠ 1 then u1.2.fail 10 4 else u1.2 := by rw [ht2, hu1, ht1]; rfl
  have q2 : PlaceR D t2 := by
    rw [et2]
    split
    · rename_i hh
      refine qu.fail 10 4 ⟨by omega, ?_⟩
      have h1 : t1.c = 0 := by
        have := hh.1
        rw [hu1] at this
        exact (uintR_inv (k := 1) this).1
      rw [ht1] at h1
      have e0 := expectR_inv (s := ⟨0, 0, 0⟩) (code := 9) (B := [71, 82, 70, 84]) (by omega) (Nat.zero_le _) h1
      have := e0.2.1
      simp at this
      omega
    · exact qu
  have p1 : PlaceR D r1.2 := by rw [hr1]; exact lengthR_place q2
  have p2 : PlaceR D r2.2 := by rw [hr2]; exact lengthR_place p1
  have p3 : PlaceR D r3.2 := by rw [hr3]; exact bytesR_place _ p2
  have p4 : PlaceR D r4.2 := by rw [hr4]; exact bytesR_place _ p3
  have p5 : PlaceR D r5.2 := by rw [hr5]; exact uintR_place _ p4
  have hU1 : Hid (∀ (A : Array Value) (S : YX w D da dcap t1 A), Calls Try.prog 17 #[.pointer (some ⟨w.heap.size + 1, 0, none⟩), .int .i64 1] S.w fun e w'' => e = .returned (.int .u64 u1.1) ∧ ∃ S' : YX w D da dcap u1.2 A, w'' = S'.w) := Lib.hid fun A S => by
    have hr := hat _ _ S q1
    have := rruint_all (w.heap.size + 1) dcap da D t1 S.w 1 hr.rd hr.pl.n hr.b hr.ok hr.ne2
    rw [show ((1 : Nat) : Int) = 1 from rfl, ← hu1] at this
    exact YX.puts this
  have hF1 : Hid (∀ (A : Array Value) (S : YX w D da dcap u1.2 A), Calls Try.prog 18 #[.pointer (some ⟨w.heap.size + 1, 0, none⟩), .int .i64 10, .int .i64 4] S.w fun e w'' => e = .returned (.tuple #[]) ∧ ∃ S' : YX w D da dcap (u1.2.fail 10 4) A, w'' = S'.w) := Lib.hid fun A S =>
    YX.puts (rrfail_all (w.heap.size + 1) dcap da u1.2 S.w D.length 10 4 (S.blocks _ List.mem_cons_self))
  have hL1 : Hid (∀ (A : Array Value) (S : YX w D da dcap t2 A), Calls Try.prog 19 #[.pointer (some ⟨w.heap.size + 1, 0, none⟩)] S.w fun e w'' => e = .returned (.int .i64 r1.1) ∧ ∃ S' : YX w D da dcap r1.2 A, w'' = S'.w) := Lib.hid fun A S => by
    have hr := hat _ _ S q2
    have := rrlength_all (w.heap.size + 1) dcap da D t2 S.w hr.rd hr.pl.n hr.b hr.ok hr.ne2
    rw [← hr1] at this
    exact YX.puts this
  have hL2 : Hid (∀ (A : Array Value) (S : YX w D da dcap r1.2 A), Calls Try.prog 19 #[.pointer (some ⟨w.heap.size + 1, 0, none⟩)] S.w fun e w'' => e = .returned (.int .i64 r2.1) ∧ ∃ S' : YX w D da dcap r2.2 A, w'' = S'.w) := Lib.hid fun A S => by
    have hr := hat _ _ S p1
    have := rrlength_all (w.heap.size + 1) dcap da D r1.2 S.w hr.rd hr.pl.n hr.b hr.ok hr.ne2
    rw [← hr2] at this
    exact YX.puts this
  have hB1 : Hid (∀ (A : Array Value) (S : YX w D da dcap r2.2 A), Calls Try.prog 20 #[.pointer (some ⟨w.heap.size + 1, 0, none⟩), .int .i64 32] S.w fun e w'' => ∃ B C, e = .returned (.slice B r3.1.length C) ∧ ∃ S' : YX w D da dcap r3.2 A, w'' = S'.w ∧ BytesIn S'.w B r3.1 C ∧ (∀ ad, B = some ad → ∃ ad', da = some ad' ∧ ad'.block = ad.block)) := Lib.hid fun A S => by
    have hr := hat _ _ S p2
    have := rrbytes_all (w.heap.size + 1) dcap da D r2.2 S.w 32 hr.rd hr.pl.n hr.b hr.ne
    rw [← hr3] at this
    exact YX.piece this
  have hB2 : Hid (∀ (A : Array Value) (S : YX w D da dcap r3.2 A), Calls Try.prog 20 #[.pointer (some ⟨w.heap.size + 1, 0, none⟩), .int .i64 32] S.w fun e w'' => ∃ B C, e = .returned (.slice B r4.1.length C) ∧ ∃ S' : YX w D da dcap r4.2 A, w'' = S'.w ∧ BytesIn S'.w B r4.1 C ∧ (∀ ad, B = some ad → ∃ ad', da = some ad' ∧ ad'.block = ad.block)) := Lib.hid fun A S => by
    have hr := hat _ _ S p3
    have := rrbytes_all (w.heap.size + 1) dcap da D r3.2 S.w 32 hr.rd hr.pl.n hr.b hr.ne
    rw [← hr4] at this
    exact YX.piece this
  have hU2 : Hid (∀ (A : Array Value) (S : YX w D da dcap r4.2 A), Calls Try.prog 17 #[.pointer (some ⟨w.heap.size + 1, 0, none⟩), .int .i64 4] S.w fun e w'' => e = .returned (.int .u64 (r5.1.toNat : Int)) ∧ ∃ S' : YX w D da dcap r5.2 A, w'' = S'.w) := Lib.hid fun A S => by
    have hr := hat _ _ S p4
    have := rruint_all (w.heap.size + 1) dcap da D r4.2 S.w 4 hr.rd hr.pl.n hr.b hr.ok hr.ne2
    rw [show ((4 : Nat) : Int) = 4 from rfl, ← hr5] at this
    rw [Int.toNat_of_nonneg (by rw [hr5]; exact (uintR4_lt okD _).1)]
    exact YX.puts this
  have hhead : headR D (s2R D) = ⟨r1.1, r2.1, r3.1, r4.1, r5.1.toNat, r5.2⟩ := by unfold headR; rw [← ht2, ← hr1, ← hr2, ← hr3, ← hr4, ← hr5]
  have hN5 : r5.1.toNat < 4294967296 := by
    have := uintR4_lt okD r4.2
    rw [← hr5] at this
    omega
  obtain ⟨POST, hP⟩ : ∃ P, P = RDecPost D w := ⟨_, rfl⟩
  have HP := Lib.hid hP
  rw [← hP]
  have HE1 := Lib.hid hE1
  have HT2 := Lib.hid et2
  have HHD := Lib.hid hhead
  have HAT := Lib.hid hat
  have HPL := Lib.hid p5
  have HR34 : Hid (r3.1.length = 32 ∨ r3.1 = []) := Lib.hid (by rw [hr3]; exact bytesR_32 D _)
  have HR44 : Hid (r4.1.length = 32 ∨ r4.1 = []) := Lib.hid (by rw [hr4]; exact bytesR_32 D _)
  obtain ⟨N, hN⟩ : ∃ N, N = r5.1.toNat := ⟨_, rfl⟩
  rw [← hN] at hU2 hN5
  have HN := Lib.hid hN
  have HHB := Lib.hid hb
  obtain ⟨L, hLe⟩ : ∃ L, L = D.length := ⟨_, rfl⟩
  clear hP hE1 et2 hhead hat ht1 ht2 hu1 hr1 hr2 hr3 hr4 hr5 q1 qu q2 p1 p2 p3 p4 p5 hN hlit hS1 hS01 hS0 e3 r0 e1 hLe hb
  go_enter Try.func6, Try.ntmps6
  go_wp2_with fail
  rw [HS1.out]
  refine HE1.out.mono ?_
  rintro e _ ⟨rfl, S2, rfl⟩
  clear hcv hz hns
  go_wp2_with fail
  refine (hU1.out _ S2).mono ?_
  rintro e _ ⟨rfl, S3, rfl⟩
  go_upto_region 5 with fail
  go_cut [31] from 22 (fun b wx => b = .bool (decide (u1.2.c = 0 ∧ u1.1 ≠ 1)) ∧ wx = S3.w)
  case first =>
    obtain ⟨-, c2, -⟩ := S3.facts
    by_cases h0 : u1.2.c = 0
    · have b0 : (u1.2.c == 0) = true := by simpa using h0
      by_cases h1 : u1.1 = 1
      · have b1 : (u1.1 != 1) = false := by simpa using h1
        have hd : decide (u1.2.c = 0 ∧ u1.1 ≠ 1) = false := by simp [h1]
        clear h0 h1
        go_wp2
        go_meet
        case rel => exact ⟨by rw [hd], rfl⟩
      · have b1 : (u1.1 != 1) = true := by simpa using h1
        have hd : decide (u1.2.c = 0 ∧ u1.1 ≠ 1) = true := by simp [h0, h1]
        clear h0 h1
        go_wp2
        go_meet
        case rel => exact ⟨by rw [hd], rfl⟩
    · have b0 : (u1.2.c == 0) = false := by simpa using h0
      have hd : decide (u1.2.c = 0 ∧ u1.1 ≠ 1) = false := by simp [h0]
      clear h0
      go_wp2
      go_meet
      case rel => exact ⟨by rw [hd], rfl⟩
  case rest =>
    obtain ⟨rfl, rfl⟩ := hcut
    go_upto_if 31 with fail
    go_cut [] from 22 (fun wx => ∃ S : YX w D da dcap t2 zeroDel, wx = S.w)
    case first =>
      by_cases hh : u1.2.c = 0 ∧ u1.1 ≠ 1
      · have hd : decide (u1.2.c = 0 ∧ u1.1 ≠ 1) = true := decide_eq_true hh
        rw [if_pos hh] at HT2
        rw [hd]
        clear hh hd
        go_wp2_with fail
        refine (hF1.out _ S3).mono ?_
        rintro e _ ⟨rfl, S4, rfl⟩
        go_wp2
        go_meet
        case rel => rw [HT2.out]; exact ⟨S4, rfl⟩
      · have hd : decide (u1.2.c = 0 ∧ u1.1 ≠ 1) = false := decide_eq_false hh
        rw [if_neg hh] at HT2
        rw [hd]
        clear hh hd
        go_wp2
        go_meet
        case rel => rw [HT2.out]; exact ⟨S3, rfl⟩
    case rest =>
      obtain ⟨S4, rfl⟩ := hcut
      clear hU1 hF1 HE1 HS1 S1 S2 S3
      go_wp2_with fail
      refine (hL1.out _ S4).mono ?_
      rintro e _ ⟨rfl, S5, rfl⟩
      obtain ⟨-, -, -, hf5, hc5⟩ := S5.facts
      have hd5 := hc5 0 (.int .i64 0) rfl
      have hz5 := hf5 0
      obtain ⟨S6, hS6⟩ := S5.set 0 (.int .i64 r1.1) (A' := deltaA r1.1 0 zeros32 zeros32 (.slice none 0 0)) (deltaA_set0 _ _ _ _ _ _)
      have HS6 := Lib.hid hS6
      clear hS6 hf5 hc5
      go_wp2_with fail
      rw [HS6.out]
      refine (hL2.out _ S6).mono ?_
      rintro e _ ⟨rfl, S7, rfl⟩
      clear hd5 hz5
      obtain ⟨-, -, -, hf7, hc7⟩ := S7.facts
      have hd7 := hc7 1 (.int .i64 0) (by simp [deltaA, deltaL])
      have hz7 := hf7 1
      obtain ⟨S8, hS8⟩ := S7.set 1 (.int .i64 r2.1) (A' := deltaA r1.1 r2.1 zeros32 zeros32 (.slice none 0 0)) (deltaA_set1 _ _ _ _ _ _)
      have HS8 := Lib.hid hS8
      clear hS8 hf7 hc7
      go_wp2_with fail
      rw [HS8.out]
      refine (hB1.out _ S8).mono ?_
      rintro e _ ⟨B1, C1, rfl, S9, rfl, hB9, hA9⟩
      clear hd7 hz7 HS6 HS8 S4 S5 S6 S7
      go_wp2_with fail
      refine (hB2.out _ S9).mono ?_
      rintro e _ ⟨B2, C2, rfl, S10, rfl, hB10, hA10⟩
      go_wp2_with fail
      refine (hU2.out _ S10).mono ?_
      rintro e _ ⟨rfl, S11, rfl⟩
      have HR0 := Lib.hid (S11.start HHB.out hdb HPL.out)
      have HB9 := Lib.hid (And.intro hB9 hA9)
      have HB10 := Lib.hid (And.intro hB10 hA10)
      clear hB9 hA9 hB10 hA10
      obtain ⟨Q0, hQ0⟩ : ∃ Q, Q = (([], r5.2) : List Core7 × RS) := ⟨_, rfl⟩
      rw [← hQ0] at HR0
      have HQ0 := Lib.hid hQ0
      clear hQ0
      go_upto_block 0 with fail
      go_cut [] from 47 (fun wx => Nonempty (RLoop w da dcap D r1.1 r2.1 N (itR D Q0 N) wx))
      case first =>
        go_wp2_with fail
        go_loopw [11] (fun i wr => ∃ k : Nat, k ≤ N ∧ i = .int .i64 k ∧ Nonempty (RLoop w da dcap D r1.1 r2.1 k (itR D Q0 k) wr)) (fun i _ => N - (intOf i).toNat)
        case atStart => exact ⟨0, by omega, rfl, HR0.out⟩
        case round =>
          clear HR0
          obtain ⟨k, hk, rfl, ⟨R⟩⟩ := hrel
          by_cases hlt : k < N
          · have hq := cmdR_step D (itR D Q0 k)
            have hnx : itR D Q0 (k + 1) = stepR D (itR D Q0 k) := rfl
            have hst : (itR D Q0 k).2.c ≠ 0 → itR D Q0 N = itR D Q0 k := fun hc => by
              obtain ⟨j, rfl⟩ : ∃ j, N = k + j := ⟨N - k, by omega⟩
              rw [itR_add]
              exact itR_no D (itR D Q0 k).1 (s := (itR D Q0 k).2) hc j
            obtain ⟨q, hqe⟩ : ∃ q, q = itR D Q0 k := ⟨_, rfl⟩
            rw [← hqe] at R hq hnx hst
            clear hqe
            obtain ⟨cs, els, v, S, rfl, hco, hok, hold, hdat, hpl, hlen⟩ := R
            by_cases hc : q.2.c = 0
            · obtain ⟨m, hm⟩ : ∃ m, m = cmdR D q.2 := ⟨_, rfl⟩
              have hfit := cmdR_fits okD q.2
              have hplm := cmdR_place hpl
              rw [← hm] at hfit hq hplm
              obtain ⟨S1, hS1⟩ := S.drewC
              have hr := RLoop.at S1 hold hdat hpl okD
              have hcall := rcommand_any q.2 hr
              rw [← hm] at hcall
              have hcall2 := Grow.rcmd (S := S1) (by omega) hold YX.hne hdat hfit.2.2 hcall
              obtain ⟨a0, cap0, rfl⟩ := own_slice S.own
              have g2 := (YB.facts S).2.1
              rw [hc] at g2
              have h66 : (deltaA r1.1 r2.1 zeros32 zeros32 (.slice a0 cs.length cap0))[66]? = some (.slice a0 cs.length cap0) := (⟨rfl, rfl, rfl⟩ : DeltaOf _ r1.1 r2.1 zeros32 zeros32 (.slice a0 cs.length cap0)).c66
              have y0 := (YB.facts S1).2.2.2.2 66 _ h66
              obtain ⟨E, hE⟩ := elem5
              have hEb : (cs.length + 1) * E.bytes ≤ 140737488355328 := by rw [hE]; omega
              have hE63 : cs.length + 1 ≤ maxLen := by unfold maxLen; omega
              clear hr hcall hm
              go_wp2
              go_region_law (first
                | (refine step_append_run rfl (.tmp 60) (.tmp 63) 25 rfl hap (by simp [Act.eval, Act.put]) (by simp [Act.eval, Act.put]) ?_)
                | (go_simp; go_at_call 21; refine hcall2.mono ?_; rintro e _ ⟨A, C, rfl, hold2, S2, rfl⟩; have y1 := (YB.facts S2).2.2.2.2 66 _ h66; obtain ⟨S3, hS3⟩ := S2.push (cmdO m.1.1 m.1.2.1 m.1.2.2.1 m.1.2.2.2.1 (.slice A m.1.2.2.2.2.length C)); have y1b : S3.w.cell? ⟨w.heap.size + 1 + 1, 66, none⟩ = some (.slice a0 cs.length cap0) := (by rw [cell_of (S3.blocks (w.heap.size + 1 + 1, deltaO (deltaA r1.1 r2.1 zeros32 zeros32 (.slice a0 cs.length cap0))) (by simp)).1]; exact h66); obtain ⟨v', w4, hap, S4, hw4, hy⟩ := cmd_appended E S3 hE63 hEb rfl; subst hw4; obtain ⟨a4, cap4, rfl⟩ := own_slice S4.own; have y2 := (hy 66 _ h66).1; have y3 := (hy 66 _ h66).2; go_simp))
              all_goals (
                have hR := RLoop.next S4 hold2 hok hdat (hco hc) hq ⟨hfit.1, hfit.2.1⟩ hplm hlen
                rw [← hnx] at hR
                have HR := Lib.hid hR
                generalize S4.w.setCell ⟨w.heap.size + 1 + 1, 66, none⟩ (.slice a4 (cs.length + 1) cap4) = W5 at HR ⊢
                clear hR hcall2 g2 y0 y1 y1b y2 y3 hap hS1 hS3 hnx hst hq
                go_wp2
                go_roundw
                case rel => exact ⟨k + 1, by omega, by go_num, HR.out⟩
                case measure => simp [intOf]; omega)
            · have g2 := (YB.facts S).2.1
              have b0 : (q.2.c == 0) = false := by simpa using hc
              have HR : Hid (Nonempty (RLoop w da dcap D r1.1 r2.1 N (itR D Q0 N) S.w)) := Lib.hid (by
                rw [hst hc]
                exact ⟨⟨cs, els, v, S, rfl, hco, hok, hold, hdat, hpl, by omega⟩⟩)
              clear hnx hst hq hco hc
              go_wp2
              go_meet
              case rel => exact HR.out
          · obtain rfl : k = N := by omega
            have HR : Hid (Nonempty (RLoop w da dcap D r1.1 r2.1 k (itR D Q0 k) wr)) := Lib.hid ⟨R⟩
            go_wp2
            go_meet
            case rel => exact HR.out
      case rest =>
        obtain ⟨R⟩ := hcut
        obtain ⟨q, hq⟩ : ∃ q, q = itR D Q0 N := ⟨_, rfl⟩
        have hcm : cmdsR D (s2R D) = q := by unfold cmdsR; rw [HHD.out, hq, HQ0.out, HN.out]
        have hes := end_same okD
        rw [hcm] at hes
        rw [← hq] at R
        have HCM := Lib.hid hcm
        have HES := Lib.hid hes
        clear hq hcm hes
        obtain ⟨cs, els, v, S, rfl, hco, hok, hold, hdat, hpl, hlen⟩ := R
        obtain ⟨a0, cap0, rfl⟩ := own_slice S.own
        have hinf0 := infoDelta zeroDel_of
        by_cases hc : q.2.c = 0
        · by_cases hlt : q.2.n < D.length
          · have hfin : finR D q.2 = ⟨q.2.n, 12, q.2.n⟩ := by unfold finR RS.fail; rw [if_pos hlt, if_pos ⟨hc, by omega⟩]
            have hr := RLoop.at S hold hdat hpl okD
            have hcall := Grow.putsOwn (S := S) (by omega) hold YX.hne (rrfail_all (w.heap.size + 1) dcap da q.2 S.w D.length 12 q.2.n hr.rd)
            have ef : q.2.fail 12 q.2.n = ⟨q.2.n, 12, q.2.n⟩ := by unfold RS.fail; rw [if_pos ⟨hc, by omega⟩]
            rw [ef] at hcall
            obtain ⟨g1, g2, g3, -⟩ := YB.facts S
            rw [hc] at g2
            have hd : decide ((q.2.n : Int) < (D.length : Int)) = true := by simpa using hlt
            have hz := zero_delta
            have HFIN := Lib.hid hfin
            have hdn : decide (q.2.n < D.length) = true := by simpa using hlt
            clear hfin hc hco hr ef
            go_wp2_with fail
            refine hcall.mono ?_
            rintro e _ ⟨rfl, S3, rfl⟩
            clear g1 g2 g3 hcall hd hdn hlt
            obtain ⟨S1, hS1⟩ := S3.drewC
            obtain ⟨g1, g2, g3, -⟩ := YB.facts S3
            obtain ⟨-, d2, d3, -⟩ := YB.facts S1
            have hz0 : S1.w.heap[w.heap.size]? = some (deltaO zeroDel) := (S1.blocks (w.heap.size, deltaO zeroDel) (by simp)).1
            have hns1 := noop_store hz0
            have HF : Hid (POST (.returned (.tuple #[.agg zeroDel, .int .i64 12, .int .i64 q.2.n])) S1.w) := Lib.hid (by
              rw [HP.out]
              have h1 := HES.out.1
              have h2 := HES.out.2.1
              rw [HFIN.out] at h1 h2
              exact rdec_no (da := da) (dcap := dcap) (q := q) (o := 0) (n := 0) (k := 0) (fin := ⟨q.2.n, 12, q.2.n⟩) S1.but.below ⟨h1, h2⟩ (by simp))
            have HZ := Lib.hid hz0
            clear hz0
            go_wp2
            go_region
            all_goals (
              clear g1 g2 g3 d2 d3 hns1 hS1 hz
              go_wp2
              refine bodyPost_ret (v := .tuple #[.agg zeroDel, .int .i64 12, .int .i64 q.2.n]) ?_ rfl HF.out
              exact results_cell_12 Try.results6 _ _ w.heap.size 27 _ (0, 0) _ _ _ rfl rfl rfl HZ.out Try.underlying27 rfl hinf0)
          · have hfin : finR D q.2 = q.2 := by unfold finR; rw [if_neg hlt]
            have hend : (endR D).c = 0 := by rw [← HES.out.1, hfin]; exact hc
            obtain ⟨hh1, hh2⟩ := HES.out.2.2 hend
            have hec := enc_dec okD hend
            have hHD := HHD.out
            rw [hh1] at hHD
            have hxl : r3.1.length = 32 := by have := hec.2.2.1; rw [hHD] at this; exact this
            have hyl : r4.1.length = 32 := by have := hec.2.2.2.1; rw [hHD] at this; exact this
            have hYES : ∀ (cs : List Cmd), cores cs = q.1 → DecRes D r1.1 r2.1 r3.1 r4.1 cs 0 0 := fun cs hcs => by
              have := dec_yes okD hend (cs := cs) (by rw [← hh2]; exact hcs)
              rw [hHD] at this
              simp only at this
              rwa [pick_of hxl, pick_of hyl] at this
            have HYES := Lib.hid hYES
            have HCO := Lib.hid (hco hc)
            have hob := fun (B : Option Addr) (l : List Int) (C : Nat) (W1 : World) (hB : BytesIn W1 B l C) (hb1 : Below w.heap.size w W1) (hA : ∀ ad, B = some ad → ∃ ad', da = some ad' ∧ ad'.block = ad.block) (hl : 0 < l.length → 0 < D.length) (W2 : World) (hb2 : Below w.heap.size w W2) =>
              old_bytes hB hb1 (fun ad hp had => by
                obtain ⟨ad', h1, h2⟩ := hA ad had
                rw [← h2]
                exact hdb ad' h1 (hl hp)) hb2
            have hD0 : 0 < D.length := by
              have := hec.1
              by_cases h0 : 0 < D.length
              · exact h0
              · exfalso
                have hnil : D = [] := List.eq_nil_of_length_eq_zero (by omega)
                rw [hnil] at this
                have h2 := congrArg List.length this
                unfold encAll encH at h2
                simp at h2
            have HX1 := Lib.hid (hob B1 r3.1 C1 S9.w HB9.out.1 S9.below HB9.out.2 (fun _ => hD0))
            have HX2 := Lib.hid (hob B2 r4.1 C2 S10.w HB10.out.1 S10.below HB10.out.2 (fun _ => hD0))
            obtain ⟨g1, g2, g3, -⟩ := YB.facts S
            rw [hc] at g2
            have hd : decide ((q.2.n : Int) < (D.length : Int)) = false := by simpa using hlt
            have hdn : decide (q.2.n < D.length) = false := by simpa using hlt
            clear hfin hend hh1 hh2 hec hHD hYES hco hob hc
            have HXL := Lib.hid (And.intro hxl hyl)
            obtain ⟨S1, hS1⟩ : ∃ S1 : Grow w none (YB w D da dcap q.2 (deltaA r1.1 r2.1 (mix32 r3.1 0) (mix32 r4.1 0) (.slice a0 cs.length cap0))) els 58 5 (.slice a0 cs.length cap0) cs.length (flat5 cs), S.w = S1.w := ⟨S, rfl⟩
            have HS1b := Lib.hid hS1
            clear hS1
            go_wp2
            go_loopw [12] (fun i wr => ∃ k : Nat, k ≤ 32 ∧ i = .int .i64 k ∧ ∃ S : Grow w none (YB w D da dcap q.2 (deltaA r1.1 r2.1 (mix32 r3.1 k) (mix32 r4.1 k) (.slice a0 cs.length cap0))) els 58 5 (.slice a0 cs.length cap0) cs.length (flat5 cs), wr = S.w) (fun i _ => 32 - (intOf i).toNat)
            case atStart => exact ⟨0, by omega, rfl, S1, HS1b.out⟩
            case round =>
              clear g1 g2 g3 HS1b S1 hd hdn hlt
              obtain ⟨k, hk, rfl, S2, rfl⟩ := hrel
              by_cases hlt : k < 32
              · have hl1 : k < r3.1.length := by rw [HXL.out.1]; exact hlt
                have hl2 : k < r4.1.length := by rw [HXL.out.2]; exact hlt
                obtain ⟨b1, o1, rfl, hc1⟩ := (HX1.out S2.w S2.but.below).cells (by omega)
                obtain ⟨b2, o2, rfl, -⟩ := (HX2.out S2.w S2.but.below).cells (by omega)
                have c1 := hc1 k hl1
                obtain ⟨S3, hS3⟩ := Grow.set3 (cs' := deltaA r1.1 r2.1 (mix32 r3.1 (k + 1)) (mix32 r4.1 k) (.slice a0 cs.length cap0)) S2 (by omega) (by simp only; omega) (by simp only; omega) hold (2 + k) (.int .u8 (r3.1[k]?.getD 0)) (by rw [deltaA_setx _ _ _ _ _ _ _ (by rw [mix32_len HXL.out.1 (by omega)]; exact hlt), mix32_set HXL.out.1 hlt])
                obtain ⟨S4, hS4⟩ := Grow.set3 (cs' := deltaA r1.1 r2.1 (mix32 r3.1 (k + 1)) (mix32 r4.1 (k + 1)) (.slice a0 cs.length cap0)) S3 (by omega) (by simp only; omega) (by simp only; omega) hold (34 + k) (.int .u8 (r4.1[k]?.getD 0)) (by rw [deltaA_sety _ _ _ _ _ _ _ (mix32_len HXL.out.1 (by omega)) (by rw [mix32_len HXL.out.2 (by omega)]; exact hlt), mix32_set HXL.out.2 hlt])
                have c2 : S3.w.cell? ⟨b2, o2 + k, none⟩ = some (.int .u8 (r4.1[k]?.getD 0)) := by
                  obtain ⟨b', o', e, hc2⟩ := (HX2.out S3.w S3.but.below).cells (by omega)
                  cases e
                  exact hc2 k hl2
                obtain ⟨-, -, -, f2, k2⟩ := YB.facts S2
                obtain ⟨-, -, -, f3, k3⟩ := YB.facts S3
                obtain ⟨z2, w2⟩ : ∃ z, S2.w.cell? ⟨w.heap.size + 1 + 1, 2 + k, none⟩ = some z := ⟨_, k2 (2 + k) _ (Array.getElem?_eq_getElem (by rw [(⟨rfl, mix32_len HXL.out.1 (by omega), mix32_len HXL.out.2 (by omega)⟩ : DeltaOf (deltaA r1.1 r2.1 (mix32 r3.1 k) (mix32 r4.1 k) (.slice a0 cs.length cap0)) _ _ _ _ _).size]; omega))⟩
                obtain ⟨z3, w3⟩ : ∃ z, S3.w.cell? ⟨w.heap.size + 1 + 1, 34 + k, none⟩ = some z := ⟨_, k3 (34 + k) _ (Array.getElem?_eq_getElem (by rw [(⟨rfl, mix32_len HXL.out.1 (by omega), mix32_len HXL.out.2 (by omega)⟩ : DeltaOf (deltaA r1.1 r2.1 (mix32 r3.1 (k + 1)) (mix32 r4.1 k) (.slice a0 cs.length cap0)) _ _ _ _ _).size]; omega))⟩
                have f2' := f2 (2 + k)
                have f3' := f3 (34 + k)
                have HS4 := Lib.hid hS4
                generalize r3.1[k]?.getD 0 = bx at c1 hS3
                generalize r4.1[k]?.getD 0 = by_ at c2 HS4
                clear hc1 f2 f3 k2 k3 hS4
                go_wp2
                rw [HS4.out]
                go_roundw
                case rel => exact ⟨k + 1, by omega, by go_num, S4, rfl⟩
                case measure => simp [intOf]; omega
              · obtain rfl : k = 32 := by omega
                obtain ⟨A17, hA17⟩ : ∃ A, A = deltaA r1.1 r2.1 r3.1 r4.1 (.slice a0 cs.length cap0) := ⟨_, rfl⟩
                obtain ⟨S3, hS3⟩ : ∃ S3 : Grow w none (YB w D da dcap q.2 A17) els 58 5 (.slice a0 cs.length cap0) cs.length (flat5 cs), S2.w = S3.w := by
                  have e1 := mix32_32 HXL.out.1
                  have e2 := mix32_32 HXL.out.2
                  obtain ⟨S3, h3⟩ := S2.sub (bs' := YB w D da dcap q.2 A17) (by rw [e1, e2, hA17]; exact fun p hp => hp)
                  exact ⟨S3, h3⟩
                rw [hS3]
                clear hS3 S2
                have hD17 : DeltaOf A17 r1.1 r2.1 r3.1 r4.1 (.slice a0 cs.length cap0) := ⟨hA17, HXL.out.1, HXL.out.2⟩
                obtain ⟨S4, hS4⟩ := Grow.row2 S3 (Nat.le_refl _) (by simp only; omega) (by simp only; omega) hold A17
                have hg17 : S3.w.heap[w.heap.size + 1 + 1]? = some (deltaO A17) := (S3.blocks (w.heap.size + 1 + 1, deltaO A17) (by simp)).1
                have hg16 : S3.w.heap[w.heap.size]? = some (deltaO zeroDel) := (S3.blocks (w.heap.size, deltaO zeroDel) (by simp)).1
                have hgR : S4.w.heap[w.heap.size]? = some (deltaO A17) := (S4.blocks (w.heap.size, deltaO A17) (by simp)).1
                have hfin : POST (.returned (.tuple #[.agg A17, .int .i64 0, .int .i64 0])) S4.w := by
                  rw [HP.out]
                  have hall : ∀ c ∈ cs, CmdOK S4.w c := fun c hcm => by
                    obtain ⟨⟨h1, h2, h3, h4⟩, h5, h6⟩ := hok c hcm
                    exact ⟨h1, h2, h3, h4, (S4.el _ h6).1, h5⟩
                  obtain ⟨a9, cap9, he9, hcs9⟩ := row_cmds (W := S4.w) (base := w.heap.size) (n := cs.length) (v := .slice a0 cs.length cap0) (cs := cs) S4.own rfl hall
                  cases he9
                  exact ⟨r1.1, r2.1, r3.1, r4.1, cs, a0, cap0, 0, 0, by rw [hA17], S4.but.below, hcs9, HYES.out cs HCO.out⟩
                have hinf := infoDelta hD17
                have hsz : zeroDel.size = A17.size := by rw [zeroDel_of.size, hD17.size]
                have hone := hD17.one rfl
                have HS4 := Lib.hid hS4
                have HFIN := Lib.hid hfin
                have HGR := Lib.hid hgR
                clear hA17 hD17 hS4 hfin hgR
                go_wp2_with (first
                  | (refine wpList_load_row rfl 27 (.tmp 6) rfl (w.heap.size + 1 + 1) rfl 27 _ (0, 0) _ hg17 Try.underlying27 rfl hinf ?_)
                  | (refine wpList_store_rowTo rfl 27 (.tmp 2) (.tmp 118) rfl rfl w.heap.size A17 rfl rfl 27 zeroDel hg16 hinf hsz hone ?_; rw [HS4.out]))
                refine bodyPost_ret (v := .tuple #[.agg A17, .int .i64 0, .int .i64 0]) ?_ rfl HFIN.out
                exact results_cell_12 Try.results6 _ _ w.heap.size 27 _ (0, 0) _ _ _ rfl rfl rfl HGR.out Try.underlying27 rfl hinf
        · have hfin : finR D q.2 = q.2 := finR_no D hc
          obtain ⟨S1, hS1⟩ := S.drewC
          obtain ⟨g1, g2, g3, -⟩ := YB.facts S
          obtain ⟨-, d2, d3, -⟩ := YB.facts S1
          have hz0 : S1.w.heap[w.heap.size]? = some (deltaO zeroDel) := (S1.blocks (w.heap.size, deltaO zeroDel) (by simp)).1
          have hns1 := noop_store hz0
          have b0 : (q.2.c == 0) = false := by simpa using hc
          have b1 : (q.2.c != 0) = true := by simpa using hc
          have HF : Hid (POST (.returned (.tuple #[.agg zeroDel, .int .i64 q.2.c, .int .i64 q.2.p])) S1.w) := Lib.hid (by
            rw [HP.out]
            have h1 := HES.out.1
            have h2 := HES.out.2.1
            rw [hfin] at h1 h2
            exact rdec_no (da := da) (dcap := dcap) (q := q) (o := 0) (n := 0) (k := 0) S1.but.below ⟨h1, h2⟩ hc)
          have HZ := Lib.hid hz0
          have hz := zero_delta
          clear hc hfin hco hz0
          go_wp2
          go_region
          all_goals (
            clear g1 g2 g3 d2 d3 hns1 hS1 hz
            go_wp2
            refine bodyPost_ret (v := .tuple #[.agg zeroDel, .int .i64 q.2.c, .int .i64 q.2.p]) ?_ rfl HF.out
            exact results_cell_12 Try.results6 _ _ w.heap.size 27 _ (0, 0) _ _ _ rfl rfl rfl HZ.out Try.underlying27 rfl hinf0)
end Go.Proofs.Ytefonhnidkfbgaa
