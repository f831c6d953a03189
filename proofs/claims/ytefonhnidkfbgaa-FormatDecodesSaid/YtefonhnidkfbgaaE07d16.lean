import Derived.Test.YtefonhnidkfbgaaE07d15
import Derived.Test.YtefonhnidkfbgaaE07d14
import Derived.Laws.CopyOwn
import Derived.Lib.SlBytesConst
import Derived.Shelf.Abstract
import Derived.Test.YtefonhnidkfbgaaE07d11
import Derived.Test.YtefonhnidkfbgaaE07d13
import Derived.Test.YtefonhnidkfbgaaE07d9
import Derived.Deep.RegionWith
/- Package format: a delta is read. -/
namespace Go.Proofs.Ytefonhnidkfbgaa
open Go.RowKit
set_option linter.unusedVariables false
set_option linter.unusedSimpArgs false

theorem merge3 {α β γ : Type} {p : α → β → γ → Prop} {goal : Prop} (G : α → β → γ → Prop) (h1 : (∀ x y z, p x y z → G x y z) → goal) (h2 : ∀ x y z, p x y z → G x y z) : goal := h1 h2
theorem deltaA_set0 (o n : Int) (x y : List Int) (s : Value) (o' : Int) : (deltaA o n x y s).setIfInBounds 0 (.int .i64 o') = deltaA o' n x y s := by simp [deltaA, deltaL]
theorem deltaA_set1 (o n : Int) (x y : List Int) (s : Value) (n' : Int) : (deltaA o n x y s).setIfInBounds 1 (.int .i64 n') = deltaA o n' x y s := by simp [deltaA, deltaL]
theorem deltaA_set66 (o n : Int) (x y : List Int) (hx : x.length = 32) (hy : y.length = 32) (s v : Value) : (deltaA o n x y s).setIfInBounds 66 v = deltaA o n x y v := ((⟨rfl, hx, hy⟩ : DeltaOf (deltaA o n x y s) o n x y s).set v).eq
theorem deltaA_copy2 (o n : Int) (x y l : List Int) (hx : x.length = 32) (hl : l.length = 32) (s : Value) : ((deltaA o n x y s).toList.take 2 ++ l.map (Value.int .u8) ++ (deltaA o n x y s).toList.drop (2 + (l.map (Value.int .u8)).length)).toArray = deltaA o n l y s := by
  unfold deltaA
  congr 1
  unfold deltaL
  simp [hl, hx]
theorem deltaA_copy34 (o n : Int) (x y l : List Int) (hx : x.length = 32) (hy : y.length = 32) (hl : l.length = 32) (s : Value) : ((deltaA o n x y s).toList.take 34 ++ l.map (Value.int .u8) ++ (deltaA o n x y s).toList.drop (34 + (l.map (Value.int .u8)).length)).toArray = deltaA o n x l s := by
  unfold deltaA
  congr 1
  unfold deltaL
  simp [hl, hx, hy]
  rw [← List.append_assoc, List.drop_left' (by simp [hx, hy])]
theorem bytesR_32 (D : List Int) (s : RS) : (bytesR D 32 s).1.length = 32 ∨ (bytesR D 32 s).1 = [] := by
  unfold bytesR
  split
  · exact .inr rfl
  · split
    · exact .inr rfl
    · split
      · exact .inr rfl
      · left
        simp only [List.length_take, List.length_drop]
        omega
/-- What lies in a digest behind a copy of so many bytes. -/
def pick32 (x l : List Int) : List Int := if l.length = 32 then l else x
theorem pick32_len {x l : List Int} (hx : x.length = 32) : (pick32 x l).length = 32 := by unfold pick32; split <;> assumption

/-- The blocks of delta. -/
abbrev DB (w : World) (g : Nat) (D : List Int) (da : Option Addr) (dcap : Nat) (s : RS) (A : Array Value) : List (Nat × Obj) := [(g, rsO s D.length da dcap), (w.heap.size, frdO g), (w.heap.size + 1, deltaO zeroDel), (w.heap.size + 1 + 1, deltaO A)]
abbrev DX (w : World) (g : Nat) (D : List Int) (da : Option Addr) (dcap : Nat) (s : RS) (A : Array Value) := HeldX w g (DB w g D da dcap s A)
section
variable {w : World} {g : Nat} {D : List Int} {da : Option Addr} {dcap : Nat} {s s' : RS} {A A' : Array Value}
theorem DX.facts (S : DX w g D da dcap s A) : S.w.cell? ⟨w.heap.size, 0, none⟩ = some (.pointer (some ⟨g, 0, none⟩)) ∧ (∀ i, S.w.frozen? ⟨w.heap.size + 1 + 1, i, none⟩ = false) ∧ (∀ (i : Nat) (u : Value), A[i]? = some u → S.w.cell? ⟨w.heap.size + 1 + 1, i, none⟩ = some u) :=
  ⟨by rw [cell_of (S.blocks (w.heap.size, frdO g) (by simp))]; rfl, fun i => free_of (S.blocks (w.heap.size + 1 + 1, deltaO A) (by simp)) i, fun i u hu => by rw [cell_of (S.blocks (w.heap.size + 1 + 1, deltaO A) (by simp))]; exact hu⟩
theorem DX.hne (hg : g < w.heap.size) : ∀ p ∈ [(w.heap.size, frdO g), (w.heap.size + 1, deltaO zeroDel), (w.heap.size + 1 + 1, deltaO A)], p.1 ≠ g := all3 (Q := fun p : Nat × Obj => p.1 ≠ g) (by simp only; omega) (by simp only; omega) (by simp only; omega)
theorem DX.puts {P : Program} {f : FuncId} {args : Array Value} {v : Value} {S : DX w g D da dcap s A} (hg : g < w.heap.size) (hc : Calls P f args S.w (Puts g (rsO s' D.length da dcap) v S.w)) :
    Calls P f args S.w fun e w'' => e = .returned v ∧ ∃ S' : DX w g D da dcap s' A, w'' = S'.w := HeldX.puts hc (.inl rfl) (DX.hne hg)
theorem DX.later (S : DX w g D da dcap s A) {w' : World} (hb : Below S.w.heap.size S.w w') : ∃ S' : DX w g D da dcap s A, w' = S'.w :=
  ⟨⟨w', S.but.trans ((But.of_below hb).mono S.but.size), fun p hp => (hb.block _ (Array.getElem?_eq_some_iff.1 (S.blocks p hp)).1).trans (S.blocks p hp)⟩, rfl⟩
theorem DX.make {P : Program} {f : FuncId} {args : Array Value} {l : List Int} {S : DX w g D da dcap s A} (hg : g < w.heap.size) (hc : Calls P f args S.w (MakesPuts g (rsO s' D.length da dcap) l S.w)) :
    Calls P f args S.w fun e w'' => ∃ B C, e = .returned (.slice B l.length C) ∧ ∃ S' : DX w g D da dcap s' A, w'' = S'.w ∧ BytesIn S'.w B l C :=
  hc.mono fun _ w'' ⟨u, he, hb, ho, hrow⟩ => by
    obtain ⟨B, C, rfl, hB, -⟩ := own_sl hrow
    refine ⟨B, C, he, ⟨w'', S.but.trans (hb.mono S.but.size), List.forall_mem_cons.2 ⟨ho, fun p hp => ?_⟩⟩, rfl, hB⟩
    have h1 := S.blocks p (List.mem_cons_of_mem _ hp)
    exact (hb.block _ (Array.getElem?_eq_some_iff.1 h1).1 (DX.hne hg p hp)).trans h1
/-- A cell, a row of the delta is written. -/
theorem DX.set (S : DX w g D da dcap s A) (hg : g < w.heap.size) (i : Nat) (u : Value) (hA : A.setIfInBounds i u = A') : ∃ S' : DX w g D da dcap s A', S.w.setCell ⟨w.heap.size + 1 + 1, i, none⟩ u = S'.w := by
  subst hA
  refine ⟨⟨S.w.setCell ⟨w.heap.size + 1 + 1, i, none⟩ u, S.but.trans ⟨rfl, rfl, rfl, by simp [World.setCell], fun k hk hn => Below.heap_setCell _ _ _ _ (by simp only; omega)⟩, fun p hp => ?_⟩, rfl⟩
  simp only [List.mem_cons, List.not_mem_nil, or_false] at hp
  rcases hp with rfl | rfl | rfl | rfl
  · exact (Below.heap_setCell _ _ _ _ (by simp only; omega)).trans (S.blocks (g, rsO s D.length da dcap) (by simp))
  · exact (Below.heap_setCell _ _ _ _ (by simp only; omega)).trans (S.blocks (w.heap.size, frdO g) (by simp))
  · exact (Below.heap_setCell _ _ _ _ (by simp only; omega)).trans (S.blocks (w.heap.size + 1, deltaO zeroDel) (by simp))
  · exact heap_setCell_same _ _ _ _ _ _ (S.blocks (w.heap.size + 1 + 1, deltaO A) (by simp))
theorem DX.row (S : DX w g D da dcap s A) (hg : g < w.heap.size) (A' : Array Value) : ∃ S' : DX w g D da dcap s A', S.w.setRow (w.heap.size + 1 + 1) A' = S'.w := by
  refine ⟨⟨S.w.setRow (w.heap.size + 1 + 1) A', S.but.trans ⟨rfl, rfl, rfl, by simp, fun k hk hn => setRow_other _ _ _ _ (by omega)⟩, fun p hp => ?_⟩, rfl⟩
  simp only [List.mem_cons, List.not_mem_nil, or_false] at hp
  rcases hp with rfl | rfl | rfl | rfl
  · exact (setRow_other _ _ _ _ (by simp only; omega)).trans (S.blocks (g, rsO s D.length da dcap) (by simp))
  · exact (setRow_other _ _ _ _ (by simp only; omega)).trans (S.blocks (w.heap.size, frdO g) (by simp))
  · exact (setRow_other _ _ _ _ (by simp only; omega)).trans (S.blocks (w.heap.size + 1, deltaO zeroDel) (by simp))
  · exact setRow_heap _ _ _ _ _ _ (S.blocks (w.heap.size + 1 + 1, deltaO A) (by simp))
/-- The copy of a digest. -/
theorem DX.copy (S : DX w g D da dcap s A) (hg : g < w.heap.size) {l : List Int} {B : Option Addr} {C : Nat} (hb : BytesIn S.w B l C) (off : Nat) (hfit : l.length = 32 → A' = (A.toList.take off ++ l.map (Value.int .u8) ++ A.toList.drop (off + (l.map (Value.int .u8)).length)).toArray) (hno : l = [] → A' = A) (hl : l.length = 32 ∨ l = []) (hsz : off + 32 ≤ A.size) :
    ∃ v w', (∀ ty, (Builtin.copy_ #[22, 22] ty #[.slice (some ⟨w.heap.size + 1 + 1, off, none⟩) 32 32, .slice B l.length C]).run Try.prog S.w = .ok v w') ∧ ∃ S' : DX w g D da dcap s A', w' = S'.w := by
  rcases hl with h | h
  · obtain ⟨b, o, rfl, hc⟩ := hb.cells (by omega)
    rw [hfit h]
    obtain ⟨S', hS'⟩ := S.row hg (A.toList.take off ++ l.map (Value.int .u8) ++ A.toList.drop (off + (l.map (Value.int .u8)).length)).toArray
    refine ⟨_, _, fun ty => run_copy_row (P := Try.prog) S.w 22 22 ty 5 (w.heap.size + 1 + 1) off 32 32 ⟨b, o, none⟩ l.length C A 27 (l.map (Value.int .u8)) Try.underlying22 (by kernel_rfl) (S.blocks (w.heap.size + 1 + 1, deltaO A) (by simp)) (by simp [h]) (fun j v hj => ?_) (by simp [h]; omega) (one_bytes _), S', hS'⟩
    have hj2 := (List.getElem?_eq_some_iff.1 hj).1
    rw [List.length_map] at hj2
    rw [Addr.add_mid, hc j hj2]
    rw [List.getElem?_map, List.getElem?_eq_getElem hj2] at hj
    rw [List.getElem?_eq_getElem hj2]
    exact hj
  · rw [hno h]
    subst h
    exact ⟨_, _, fun ty => run_copy_none (P := Try.prog) S.w 22 22 ty 5 _ B 32 32 0 C Try.underlying22 (by kernel_rfl) (by simp), S, rfl⟩
end
end Go.Proofs.Ytefonhnidkfbgaa

/- Package format: which deltas can be encoded. -/
namespace Go.Proofs.Ytefonhnidkfbgaa
open Go.RowKit Go.Shelf Go.Proofs.Ytefonhnidkfbgaa.Plain01
set_option linter.unusedVariables false
set_option linter.unusedSimpArgs false

/-- A list has an element of such a kind, or has none. -/
theorem any_at {α : Type} {p : α → Bool} {l : List α} {k : Nat} {c : α} (h : l[k]? = some c) (hp : p c = true) : l.any p = true := List.any_eq_true.2 ⟨c, List.mem_of_getElem? h, hp⟩
theorem any_none {α : Type} {p : α → Bool} {l : List α} (h : ∀ (j : Nat) (c : α), j < l.length → l[j]? = some c → p c = false) : l.any p = false := by
  cases ha : l.any p with
  | false => rfl
  | true =>
    obtain ⟨c, hc, hp⟩ := List.any_eq_true.1 ha
    obtain ⟨j, hj⟩ := List.getElem?_of_mem hc
    rw [h j c (List.getElem?_eq_some_iff.1 hj).1 hj] at hp
    cases hp

/-- The position of the first element of a kind: it is 0 or greater just if there is one. -/
def FirstB (b : Bool) (w : World) (e : Ending) (w' : World) : Prop := ∃ r : Int, e = .returned (.int .i64 r) ∧ Below w.heap.size w w' ∧ decide (0 ≤ r) = b

set_option maxRecDepth 100000 in
set_option maxHeartbeats 4000000 in
theorem indexPred_any (cb : Nat) (lb : Array Value) (p : Cmd → Bool) (ca : Option Addr) (cs : List Cmd) (ccap : Nat) (w : World) (h : CmdsIn w ca cs ccap) (eg : ∀ args w, (callFunc cb args).run Try.prog w = .ok (.enter cb args) w)
    (hf : ∀ (s : HeldW w []) (c : Cmd), c ∈ cs → Calls Try.prog cb (#[cmdW c] ++ lb) s.w (Gives (.bool (p c)) s.w)) : Calls Try.prog 51 #[.slice ca cs.length ccap, .func (.func cb) #[] lb] w (FirstB (cs.any p) w) := by
  have hpost : Hid (∀ (r : Int) (s : HeldW w []), decide (0 ≤ r) = cs.any p → FirstB (cs.any p) w (.returned (.int .i64 r)) s.w) := Lib.hid fun r s hr => ⟨r, rfl, s.below, hr⟩
  have HC := Lib.hid h
  have HF := Lib.hid hf
  obtain ⟨L, hLe⟩ : ∃ L, L = cs.length := ⟨_, rfl⟩
  have HL := Lib.hid hLe
  have hLcap : L ≤ ccap := by rw [hLe]; exact h.len
  have hccap := h.capb
  rw [← hLe]
  obtain ⟨POST, hPOST⟩ : ∃ Q, Q = FirstB (cs.any p) w := ⟨_, rfl⟩
  rw [← hPOST] at hpost ⊢
  clear h hf hLe hPOST
  go_enter Try.func51, Try.ntmps51
  go_wp2
  go_loopw [8] (fun v wr => ∃ k : Nat, k ≤ L ∧ v = .int .i64 k ∧ Hid (∀ (j : Nat) (d : Cmd), j < k → cs[j]? = some d → p d = false) ∧ ∃ s : HeldW w [], wr = s.w) (fun v _ => L - (intOf v).toNat)
  case atStart => exact ⟨0, by omega, rfl, Lib.hid (fun j d hj => by omega), HeldW.start w, rfl⟩
  case round =>
    obtain ⟨k, hk, rfl, hf, s, rfl⟩ := hrel
    by_cases hlt : k < L
    · obtain ⟨c, hc⟩ : ∃ c, cs[k]? = some c := ⟨_, List.getElem?_eq_getElem (by rw [← HL.out]; exact hlt)⟩
      obtain ⟨b, oo, rfl, x0, x1, x2, x3, x4⟩ := (HC.out.W s).at hc
      have hcc := HF.out s c (List.mem_of_getElem? hc)
      have HCC := Lib.hid hc
      clear hc
      cases hh : p c with
      | true =>
        have hT : Hid (decide (0 ≤ (k : Int)) = cs.any p) := Lib.hid (by rw [any_at HCC.out hh]; simp)
        rw [hh] at hcc
        clear hh
        go_wp2_with (go_at_fn cb; refine (HeldW.call hcc).mono ?_; rintro e _ ⟨rfl, s2, rfl⟩)
        exact hpost.out _ s2 hT.out
      | false =>
        have hstep : Hid (∀ (j : Nat) (d : Cmd), j < k + 1 → cs[j]? = some d → p d = false) := Lib.hid fun j d hj hd => by
          by_cases e : j = k
          · subst e; rw [HCC.out] at hd; cases hd; exact hh
          · exact hf.out j d (by omega) hd
        rw [hh] at hcc
        clear hh
        go_wp2_with (go_at_fn cb; refine (HeldW.call hcc).mono ?_; rintro e _ ⟨rfl, s2, rfl⟩)
        go_roundw
        case rel => exact ⟨k + 1, by omega, by go_num, hstep, s2, rfl⟩
        case measure => simp [intOf]; omega
    · obtain rfl : k = L := by omega
      have hT : Hid (decide (0 ≤ (-1 : Int)) = cs.any p) := Lib.hid (by rw [any_none (fun j c hj hc => hf.out j c (by rw [HL.out]; exact hj) hc)]; rfl)
      go_wp2
      exact hpost.out _ s hT.out

theorem containsPred_any (cb : Nat) (p : Cmd → Bool) (ca : Option Addr) (cs : List Cmd) (ccap : Nat) (w : World) (h : CmdsIn w ca cs ccap) (eg : ∀ args w, (callFunc cb args).run Try.prog w = .ok (.enter cb args) w)
    (hf : ∀ (s : HeldW w []) (c : Cmd), c ∈ cs → Calls Try.prog cb #[cmdW c] s.w (Gives (.bool (p c)) s.w)) : Calls Try.prog 37 #[.slice ca cs.length ccap, .func (.func cb) #[] #[]] w (Gives (.bool (cs.any p)) w) := by
  have hi := indexPred_any cb #[] p ca cs ccap w h eg (fun s c hc => by simpa using hf s c hc)
  generalize cs.any p = B at hi ⊢
  generalize cs.length = L at hi ⊢
  clear h hf
  go_enter Try.func37, Try.ntmps37
  go_wp2_with fail
  refine hi.mono ?_
  rintro e w' ⟨r, rfl, hb, hr⟩
  clear hi
  subst hr
  go_wp2
  go_ret
  exact ⟨by simp, hb⟩

/-- Numbers that lie somewhere. -/
structure IntsIn (w : World) (a : Option Addr) (zs : List Int) (cap : Nat) : Prop where
  len : zs.length ≤ cap
  capb : cap ≤ 1000
  cells : 0 < zs.length → ∃ b o, a = some ⟨b, o, none⟩ ∧ ∀ (i : Nat) (z : Int), zs[i]? = some z → w.cell? ⟨b, o + i, none⟩ = some (.int .i64 z)
theorem IntsIn.W {w : World} {a : Option Addr} {zs : List Int} {cap : Nat} (h : IntsIn w a zs cap) {bs : List (Nat × Obj)} (s : HeldW w bs) : IntsIn s.w a zs cap :=
  ⟨h.len, h.capb, fun hp => by
    obtain ⟨b, o, h1, h2⟩ := h.cells hp
    exact ⟨b, o, h1, fun i z hi => (s.below.cell (p := ⟨b, o + i, none⟩) (World.block_lt_of_cell? _ _ (h2 i z hi))).trans (h2 i z hi)⟩⟩
theorem ints_row {w : World} {g : Nat} {cs : Array Value} {t : TypeId} {fr : Nat × Nat} (h : w.heap[g]? = some (.cells cs t fr)) (zs : List Int) (hcs : cs = (zs.map (Value.int .i64)).toArray) (hl : zs.length ≤ 1000) : IntsIn w (some ⟨g, 0, none⟩) zs zs.length :=
  ⟨Nat.le_refl _, hl, fun _ => ⟨g, 0, rfl, fun i z hi => by
    subst hcs
    rw [Nat.zero_add, cell_of_row _ _ _ _ _ _ h]
    simp [hi]⟩⟩

theorem arelenC_any (n : Int) (w : World) : Calls Try.prog 53 #[.int .i64 n] w (Gives (.bool (!inB n)) w) := by
  have hcase : inB n = true ∧ decide (n < 0) = false ∧ decide (4611686018427387903 < n) = false ∨ inB n = false ∧ decide (n < 0) = false ∧ decide (4611686018427387903 < n) = true ∨ inB n = false ∧ decide (n < 0) = true := by
    cases h : inB n with
    | true => have := inB_iff.1 h; left; simp; omega
    | false =>
      right
      have : ¬ (0 ≤ n ∧ n ≤ 4611686018427387903) := fun hh => by rw [inB_iff.2 hh] at h; cases h
      simp
      omega
  rcases hcase with ⟨hr, g1, g2⟩ | ⟨hr, g1, g2⟩ | ⟨hr, g1⟩
  all_goals
    rw [hr]
    clear hr
    go_enter Try.func53, Try.ntmps53
    go_wp2
    go_ret
    exact ⟨rfl, Below.refl _ _⟩

set_option maxRecDepth 100000 in
set_option maxHeartbeats 4000000 in
theorem indexI_any (a : Option Addr) (zs : List Int) (cap : Nat) (w : World) (h : IntsIn w a zs cap) : Calls Try.prog 56 #[.slice a zs.length cap, .func (.func 53) #[] #[]] w (FirstB (zs.any fun n => !inB n) w) := by
  have hpost : Hid (∀ (r : Int) (s : HeldW w []), decide (0 ≤ r) = (zs.any fun n => !inB n) → FirstB (zs.any fun n => !inB n) w (.returned (.int .i64 r)) s.w) := Lib.hid fun r s hr => ⟨r, rfl, s.below, hr⟩
  have HC := Lib.hid h
  obtain ⟨L, hLe⟩ : ∃ L, L = zs.length := ⟨_, rfl⟩
  have HL := Lib.hid hLe
  have hLcap : L ≤ cap := by rw [hLe]; exact h.len
  have hccap := h.capb
  rw [← hLe]
  obtain ⟨POST, hPOST⟩ : ∃ Q, Q = FirstB (zs.any fun n => !inB n) w := ⟨_, rfl⟩
  rw [← hPOST] at hpost ⊢
  clear h hLe hPOST
  go_enter Try.func56, Try.ntmps56
  go_wp2
  go_loopw [8] (fun v wr => ∃ k : Nat, k ≤ L ∧ v = .int .i64 k ∧ Hid (∀ (j : Nat) (d : Int), j < k → zs[j]? = some d → (!inB d) = false) ∧ ∃ s : HeldW w [], wr = s.w) (fun v _ => L - (intOf v).toNat)
  case atStart => exact ⟨0, by omega, rfl, Lib.hid (fun j d hj => by omega), HeldW.start w, rfl⟩
  case round =>
    obtain ⟨k, hk, rfl, hf, s, rfl⟩ := hrel
    by_cases hlt : k < L
    · obtain ⟨c, hc⟩ : ∃ c, zs[k]? = some c := ⟨_, List.getElem?_eq_getElem (by rw [← HL.out]; exact hlt)⟩
      obtain ⟨b, oo, rfl, x0⟩ := (HC.out.W s).cells (by rw [← HL.out]; omega)
      replace x0 := x0 k c hc
      have hcc := arelenC_any c s.w
      have HCC := Lib.hid hc
      clear hc
      cases hh : inB c with
      | false =>
        have hT : Hid (decide (0 ≤ (k : Int)) = zs.any fun n => !inB n) := Lib.hid (by rw [any_at HCC.out (by rw [hh]; rfl)]; simp)
        rw [hh] at hcc
        clear hh
        go_wp2_with (go_at_call 53; refine (HeldW.call hcc).mono ?_; rintro e _ ⟨rfl, s2, rfl⟩)
        exact hpost.out _ s2 hT.out
      | true =>
        have hstep : Hid (∀ (j : Nat) (d : Int), j < k + 1 → zs[j]? = some d → (!inB d) = false) := Lib.hid fun j d hj hd => by
          by_cases e : j = k
          · subst e; rw [HCC.out] at hd; cases hd; rw [hh]; rfl
          · exact hf.out j d (by omega) hd
        rw [hh] at hcc
        clear hh
        go_wp2_with (go_at_call 53; refine (HeldW.call hcc).mono ?_; rintro e _ ⟨rfl, s2, rfl⟩)
        go_roundw
        case rel => exact ⟨k + 1, by omega, by go_num, hstep, s2, rfl⟩
        case measure => simp [intOf]; omega
    · obtain rfl : k = L := by omega
      have hT : Hid (decide (0 ≤ (-1 : Int)) = zs.any fun n => !inB n) := Lib.hid (by rw [any_none (fun j c hj hc => hf.out j c (by rw [HL.out]; exact hj) hc)]; rfl)
      go_wp2
      exact hpost.out _ s hT.out
theorem containsI_any (a : Option Addr) (zs : List Int) (cap : Nat) (w : World) (h : IntsIn w a zs cap) : Calls Try.prog 52 #[.slice a zs.length cap, .func (.func 53) #[] #[]] w (Gives (.bool (zs.any fun n => !inB n)) w) := by
  have hi := indexI_any a zs cap w h
  generalize (zs.any fun n => !inB n) = B at hi ⊢
  generalize zs.length = L at hi ⊢
  clear h
  go_enter Try.func52, Try.ntmps52
  go_wp2_with fail
  refine hi.mono ?_
  rintro e w' ⟨r, rfl, hb, hr⟩
  clear hi
  subst hr
  go_wp2
  go_ret
  exact ⟨by simp, hb⟩
theorem not_any {α : Type} (p : α → Bool) (l : List α) : (!l.any fun n => !p n) = l.all p := by
  induction l with
  | nil => rfl
  | cons a l ih => rw [List.any_cons, List.all_cons, Bool.not_or, Bool.not_not, ih]
theorem areLengths_any (a : Option Addr) (zs : List Int) (cap : Nat) (w : World) (h : IntsIn w a zs cap) : Calls Try.prog 39 #[.slice a zs.length cap] w (Gives (.bool (zs.all inB)) w) := by
  have hi := containsI_any a zs cap w h
  rw [← not_any]
  generalize (zs.any fun n => !inB n) = B at hi ⊢
  generalize zs.length = L at hi ⊢
  clear h
  go_enter Try.func39, Try.ntmps39
  go_wp2_with fail
  refine hi.mono ?_
  rintro e w' ⟨rfl, hb⟩
  clear hi
  go_wp2
  go_ret
  exact ⟨by simp, hb⟩

theorem hasNoKind_any (c : Cmd) (w : World) : Calls Try.prog 38 #[cmdW c] w (Gives (.bool (!kindB c.core)) w) := by
  have hb : Below w.heap.size w (w.alloc (cmdO c.k c.t c.f c.n (.slice c.a c.l.length c.cap))) := (Below.refl _ _).alloc (Nat.le_refl _) _
  have hcase : kindB c.core = true ∧ (c.k != 1) = false ∨ kindB c.core = true ∧ (c.k != 1) = true ∧ (c.k != 2) = false ∨ kindB c.core = false ∧ (c.k != 1) = true ∧ (c.k != 2) = true := by
    unfold kindB
    simp only [Bool.or_eq_true, beq_iff_eq, bne_iff_ne, ne_eq, Bool.or_eq_false_iff, beq_eq_false_iff_ne, bne_eq_false_iff_eq]
    omega
  rcases hcase with ⟨hr, g1⟩ | ⟨hr, g1, g2⟩ | ⟨hr, g1, g2⟩
  all_goals
    rw [hr]
    clear hr
    go_enter Try.func38, Try.ntmps38
    go_wp2
    go_ret
    exact ⟨by simp, hb⟩
end Go.Proofs.Ytefonhnidkfbgaa

/- Package format: check; the numbers of a command. -/
namespace Go.Proofs.Ytefonhnidkfbgaa
open Go.RowKit Go.Shelf Go.Proofs.Ytefonhnidkfbgaa.Plain01
set_option linter.unusedVariables false
set_option linter.unusedSimpArgs false

abbrev intsO (zs : Array Value) : Obj := .cells zs 3 (0, 0)

set_option maxRecDepth 100000 in
set_option maxHeartbeats 4000000 in
theorem hasNoPlace_copy (t f n : Int) (a : Option Addr) (L cap : Nat) (w : World) : Calls Try.prog 40 #[cmdV 1 t f n (.slice a L cap)] w (Gives (.bool (!([t, f, n].all inB && decide (L = 0)))) w) := by
  obtain ⟨S, hS⟩ := start2 w (cmdO 1 t f n (.slice a L cap)) (intsO #[.int .i64 t, .int .i64 f, .int .i64 n])
  have hA := areLengths_any _ [t, f, n] _ S.w (ints_row (S.blocks (w.heap.size + 1, intsO #[.int .i64 t, .int .i64 f, .int .i64 n]) (by simp)) [t, f, n] rfl (by simp))
  obtain ⟨B, hB⟩ : ∃ B, B = [t, f, n].all inB := ⟨_, rfl⟩
  rw [← hB] at hA ⊢
  have HS := Lib.hid hS
  have c4 := (held_cmd S w.heap.size 1 t f n (.slice a L cap) (by simp)).2.2.2.2.1
  have C4 := Lib.hid (fun s : HeldW w [(w.heap.size + 1, intsO #[.int .i64 t, .int .i64 f, .int .i64 n]), (w.heap.size, cmdO 1 t f n (.slice a L cap))] => (held_cmd s w.heap.size 1 t f n (.slice a L cap) (by simp)).2.2.2.2.1)
  clear hB hS c4
  have hl : [t, f, n].length = 3 := rfl
  rw [hl] at hA
  clear hl
  cases B with
  | false =>
    go_enter Try.func40, Try.ntmps40
    go_wp2_with fail
    rw [HS.out]
    refine (HeldW.call (s := S) hA).mono ?_
    rintro e _ ⟨rfl, s2, rfl⟩
    go_wp2
    go_ret
    exact ⟨by simp, s2.below⟩
  | true =>
    have hcase : decide (L = 0) = true ∧ decide (0 < L) = false ∨ decide (L = 0) = false ∧ decide (0 < L) = true := by
      simp; omega
    rcases hcase with ⟨g1, g2⟩ | ⟨g1, g2⟩
    all_goals
      rw [g1]
      clear g1
      go_enter Try.func40, Try.ntmps40
      go_wp2_with fail
      rw [HS.out]
      refine (HeldW.call (s := S) hA).mono ?_
      rintro e _ ⟨rfl, s2, rfl⟩
      have c4 := C4.out s2
      go_wp2
      go_ret
      exact ⟨by simp, s2.below⟩

set_option maxRecDepth 100000 in
set_option maxHeartbeats 4000000 in
theorem hasNoPlace_lit (k t f n : Int) (hk : k ≠ 1) (a : Option Addr) (L cap : Nat) (w : World) : Calls Try.prog 40 #[cmdV k t f n (.slice a L cap)] w (Gives (.bool (!([t].all inB && (f == 0 && n == 0)))) w) := by
  obtain ⟨S, hS⟩ := start2 w (cmdO k t f n (.slice a L cap)) (intsO #[.int .i64 t])
  have hA := areLengths_any _ [t] _ S.w (ints_row (S.blocks (w.heap.size + 1, intsO #[.int .i64 t]) (by simp)) [t] rfl (by simp))
  obtain ⟨B, hB⟩ : ∃ B, B = [t].all inB := ⟨_, rfl⟩
  rw [← hB] at hA ⊢
  have HS := Lib.hid hS
  have C4 := Lib.hid (fun s : HeldW w [(w.heap.size + 1, intsO #[.int .i64 t]), (w.heap.size, cmdO k t f n (.slice a L cap))] => held_cmd s w.heap.size k t f n (.slice a L cap) (by simp))
  clear hB hS
  have hl : [t].length = 1 := rfl
  rw [hl] at hA
  have e1 : (k == 1) = false := by simpa using hk
  clear hl hk
  cases B with
  | false =>
    go_enter Try.func40, Try.ntmps40
    go_wp2_with fail
    rw [HS.out]
    refine (HeldW.call (s := S) hA).mono ?_
    rintro e _ ⟨rfl, s2, rfl⟩
    go_wp2
    go_ret
    exact ⟨by simp, s2.below⟩
  | true =>
    have hcase : (f == 0 && n == 0) = true ∧ (f != 0) = false ∧ (n != 0) = false ∨ (f == 0 && n == 0) = false ∧ (f != 0) = false ∧ (n != 0) = true ∨ (f == 0 && n == 0) = false ∧ (f != 0) = true := by
      simp only [Bool.and_eq_true, beq_iff_eq, bne_iff_ne, ne_eq, Bool.and_eq_false_iff, beq_eq_false_iff_ne, bne_eq_false_iff_eq]
      omega
    rcases hcase with ⟨g1, g2, g3⟩ | ⟨g1, g2, g3⟩ | ⟨g1, g2⟩
    all_goals
      rw [g1]
      clear g1
      go_enter Try.func40, Try.ntmps40
      go_wp2_with fail
      rw [HS.out]
      refine (HeldW.call (s := S) hA).mono ?_
      rintro e _ ⟨rfl, s2, rfl⟩
      obtain ⟨c0, c1, c2, c3, c4, -⟩ := C4.out s2
      go_wp2
      go_ret
      exact ⟨by simp, s2.below⟩

theorem hasNoPlace_any (c : Cmd) (w : World) : Calls Try.prog 40 #[cmdW c] w (Gives (.bool (!goodB c.core)) w) := by
  obtain ⟨k, t, f, n, l, a, cap⟩ := c
  by_cases hk : k = 1
  · subst hk
    have e : goodB (⟨1, t, f, n, l, a, cap⟩ : Cmd).core = ([t, f, n].all inB && decide (l.length = 0)) := by
      unfold goodB
      simp only [List.all_cons, List.all_nil, Bool.and_true, if_true, Bool.and_assoc]
      cases l <;> simp
    rw [e]
    exact hasNoPlace_copy t f n a l.length cap w
  · have e : goodB (⟨k, t, f, n, l, a, cap⟩ : Cmd).core = ([t].all inB && (f == 0 && n == 0)) := by
      unfold goodB
      simp only [List.all_cons, List.all_nil, Bool.and_true, if_neg hk]
      by_cases hf : f = 0
      · by_cases hn : n = 0
        · subst hf hn
          have : inB 0 = true := by decide
          rw [this]; simp
        · have : (n == 0) = false := by simpa using hn
          rw [this]; simp
      · have : (f == 0) = false := by simpa using hf
        rw [this]; simp
    rw [e]
    exact hasNoPlace_lit k t f n hk a l.length cap w

theorem load_cmds {w : World} {g i : Nat} {v : Value} (hc : w.cell? ⟨g, i, none⟩ = some v) : (Instr.loadAt 25 (.pointer (some ⟨g, i, none⟩))).run Try.prog w = .ok v w := by
  have hagg : (isAgg 25).run Try.prog w = .ok false w := by kernel_rfl
  simp only [Instr.loadAt, Instr.sureAddr, Sem.run_bind, Sem.run_pure, Result.andThen_ok, loadVar, hagg]
  simp [hc]

set_option maxRecDepth 100000 in
set_option maxHeartbeats 4000000 in
theorem fcheck_any (D : Array Value) (o n : Int) (x y : List Int) (ca : Option Addr) (cs : List Cmd) (ccap : Nat) (hD : DeltaOf D o n x y (.slice ca cs.length ccap)) (w : World) (h : CmdsIn w ca cs ccap) (hN : cs.length < 4294967296) :
    Calls Try.prog 23 #[.agg D] w (Gives (.int .i64 (wrongOf o n (cores cs))) w) := by
  obtain ⟨S, hS⟩ := start1 w (deltaO D)
  have HS := Lib.hid hS
  have d1 := (delta_held hD S w.heap.size (by simp)).2.2
  have DD := Lib.hid (fun s : HeldW w [(w.heap.size, deltaO D)] => delta_held hD s w.heap.size (by simp))
  have h1 := Lib.hid (fun s : HeldW w [(w.heap.size, deltaO D)] => containsPred_any 38 (fun c => !kindB c.core) ca cs ccap s.w (h.W s) (enters_of Try.func38 (by kernel_rfl) rfl) (fun s' c _ => hasNoKind_any c s'.w))
  have h3 := Lib.hid (fun (bs : List (Nat × Obj)) (s : HeldW w bs) => containsPred_any 40 (fun c => !goodB c.core) ca cs ccap s.w (h.W s) (enters_of Try.func40 (by kernel_rfl) rfl) (fun s' c _ => hasNoPlace_any c s'.w))
  have ek : (cs.any fun c => !kindB c.core) = !(cores cs).all kindB := by unfold cores; rw [List.all_map, ← not_any, Bool.not_not]; rfl
  have eg : (cs.any fun c => !goodB c.core) = !(cores cs).all goodB := by unfold cores; rw [List.all_map, ← not_any, Bool.not_not]; rfl
  obtain ⟨K, hK⟩ : ∃ K, K = (cores cs).all kindB := ⟨_, rfl⟩
  obtain ⟨G, hG⟩ : ∃ G, G = (cores cs).all goodB := ⟨_, rfl⟩
  obtain ⟨I, hI⟩ : ∃ I, I = (inB o && inB n) := ⟨_, rfl⟩
  have hW : wrongOf o n (cores cs) = if K = false then 11 else if I = false then 2 else if G = false then 2 else 0 := by unfold wrongOf; rw [← hK, ← hG, ← hI]
  obtain ⟨R, hR⟩ : ∃ R, R = wrongOf o n (cores cs) := ⟨_, rfl⟩
  rw [← hR] at hW ⊢
  have HR := Lib.hid hW
  rw [ek, ← hK] at h1
  rw [eg, ← hG] at h3
  have HI := Lib.hid hI
  obtain ⟨L, hL⟩ : ∃ L, L = cs.length := ⟨_, rfl⟩
  rw [← hL] at hN d1 h1 h3 DD
  clear ek eg hK hG hI hW hR hD h hL hS
  have h1f : K = true → Hid (∀ s : HeldW w [(w.heap.size, deltaO D)], Calls Try.prog 37 #[.slice ca L ccap, .func (.func 38) #[] #[]] s.w (Gives (.bool false) s.w)) := fun hK => by rw [hK] at h1; exact h1
  have gL : decide (0 < (L : Int) / 4294967296) = false := by simp; omega
  cases K with
  | false =>
    rw [← HS.out] at d1
    go_enter Try.func23, Try.ntmps23
    go_wp2_with fail
    rw [HS.out]
    refine (HeldW.call (s := S) (h1.out S)).mono ?_
    rintro e _ ⟨rfl, s2, rfl⟩
    go_wp2
    go_ret
    exact ⟨by rw [HR.out]; simp, s2.below⟩
  | true =>
    have h1 := h1f rfl
    rw [← HS.out] at d1
    go_enter Try.func23, Try.ntmps23
    go_wp2_with fail
    rw [HS.out]
    refine (HeldW.call (s := S) (h1.out S)).mono ?_
    rintro e _ ⟨rfl, s2, rfl⟩
    clear d1
    obtain ⟨d0, d1, d66⟩ := DD.out s2
    obtain ⟨B, S3, hB, hB0, hlt, hS3⟩ := s2.more1 (intsO #[.int .i64 o, .int .i64 n])
    have HB := Lib.hid hB
    have HS3 := Lib.hid hS3
    have hA := areLengths_any _ [o, n] _ S3.w (ints_row (S3.blocks (B, intsO #[.int .i64 o, .int .i64 n]) (by simp)) [o, n] rfl (by simp))
    rw [show [o, n].all inB = I by rw [HI.out]; simp, show [o, n].length = 2 from rfl] at hA
    clear hS3 hB hlt
    go_wp2_with fail
    rw [HS3.out, ← HB.out]
    clear d0 d1 d66
    refine (HeldW.call (s := S3) hA).mono ?_
    rintro e _ ⟨rfl, s4, rfl⟩
    cases I with
    | false =>
      go_wp2
      go_ret
      exact ⟨by rw [HR.out]; simp, s4.below⟩
    | true =>
      obtain ⟨d0, d1, d66⟩ := DD.out (s4.sub (by simp))
      have hld := load_cmds d66
      go_wp2_with (refine wpList_load_val rfl 25 (.tmp 14) rfl (some 15) rfl (.slice ca L ccap) hld ?_)
      refine (HeldW.call (s := s4) (h3.out _ s4)).mono ?_
      rintro e _ ⟨rfl, s5, rfl⟩
      cases G with
      | false =>
        go_wp2
        go_ret
        exact ⟨by rw [HR.out]; simp, s5.below⟩
      | true =>
        go_wp2
        go_ret
        exact ⟨by rw [HR.out]; simp, s5.below⟩
end Go.Proofs.Ytefonhnidkfbgaa

/- Package format: the fields of a command, and their bytes. -/
namespace Go.Proofs.Ytefonhnidkfbgaa
open Go.RowKit Go.Shelf Go.Proofs.Ytefonhnidkfbgaa.Plain01
set_option linter.unusedVariables false
set_option linter.unusedSimpArgs false

abbrev fldV (v z : Int) : Value := .agg #[.int .u64 v, .int .i64 z]
theorem flength_any (n : Int) (hn : 0 ≤ n) (hm : n ≤ 9223372036854775807) (w : World) : Calls Try.prog 25 #[.int .i64 n] w (Gives (fldV n 8) w) := by
  have hw : IntKind.u64.wrap n = n := by rw [IntKind.wrap_u64]; omega
  have HW := Lib.hid hw
  have hb : Below w.heap.size w (w.alloc (.cells #[.int .u64 n, .int .i64 8] 64)) := (Below.refl _ _).alloc (Nat.le_refl _) _
  go_enter Try.func25, Try.ntmps25
  go_wp2
  refine bodyPost_ret (v := fldV n 8) (by simp [results, Try.results25, go_sem]) rfl ⟨rfl, hb⟩

/-- The numbers that stand ahead of a command's data. -/
def fieldsK (c : Core7) : List (Int × Int) := if c.1 = 1 then [(1, 1), (c.2.1, 8), (c.2.2.1, 8), (c.2.2.2.1, 8)] else [(2, 1), (c.2.1, 8), ((c.2.2.2.2.length : Int), 8)]
/-- A new slice of fields. -/
def GivesF (fs : List (Int × Int)) (w : World) (e : Ending) (w' : World) : Prop := ∃ g : Nat, e = .returned (.slice (some ⟨g, 0, none⟩) fs.length fs.length) ∧ Below w.heap.size w w' ∧ w.heap.size ≤ g ∧ FieldsIn w' (some ⟨g, 0, none⟩) fs fs.length
theorem fields_row {w : World} {g : Nat} {cs : Array Value} {t : TypeId} {fr : Nat × Nat} (h : w.heap[g]? = some (.cells cs t fr)) (fs : List (Int × Int)) (hcs : cs = (fs.flatMap fun f => [Value.int .u64 f.1, Value.int .i64 f.2]).toArray) (hl : fs.length ≤ 1000) (hok : ∀ f ∈ fs, (0 ≤ f.1 ∧ f.1 < 18446744073709551616) ∧ (-9223372036854775808 ≤ f.2 ∧ f.2 ≤ 9223372036854775807)) : FieldsIn w (some ⟨g, 0, none⟩) fs fs.length :=
  ⟨Nat.le_refl _, by omega, fun _ => ⟨g, 0, rfl, fun i f hi => by
    obtain ⟨h1, h2⟩ := fcells_get fs i f hi
    subst hcs
    unfold fcells at h1 h2
    rw [Nat.zero_add, cell_of_row _ _ _ _ _ _ h, cell_of_row _ _ _ _ _ _ h]
    exact ⟨by simpa using h1, by simpa using h2⟩⟩, hok⟩

set_option maxRecDepth 100000 in
set_option maxHeartbeats 4000000 in
theorem ffields_copy (t f n : Int) (ht : 0 ≤ t ∧ t ≤ 9223372036854775807) (hf : 0 ≤ f ∧ f ≤ 9223372036854775807) (hn : 0 ≤ n ∧ n ≤ 9223372036854775807) (a : Option Addr) (L cap : Nat) (w : World) : Calls Try.prog 26 #[cmdV 1 t f n (.slice a L cap)] w (GivesF [(1, 1), (t, 8), (f, 8), (n, 8)] w) := by
  obtain ⟨S, hS⟩ := start2 w (cmdO 1 t f n (.slice a L cap)) (.cells #[.int .u64 1, .int .i64 1] 64 (0, 0))
  have HS := Lib.hid hS
  have h1 := fun s : HeldW w [(w.heap.size + 1, .cells #[.int .u64 1, .int .i64 1] 64 (0, 0)), (w.heap.size, cmdO 1 t f n (.slice a L cap))] => flength_any t ht.1 ht.2 s.w
  have h2 := fun s : HeldW w [(w.heap.size + 1, .cells #[.int .u64 1, .int .i64 1] 64 (0, 0)), (w.heap.size, cmdO 1 t f n (.slice a L cap))] => flength_any f hf.1 hf.2 s.w
  have h3 := fun s : HeldW w [(w.heap.size + 1, .cells #[.int .u64 1, .int .i64 1] 64 (0, 0)), (w.heap.size, cmdO 1 t f n (.slice a L cap))] => flength_any n hn.1 hn.2 s.w
  have hok : ∀ x ∈ [((1 : Int), (1 : Int)), (t, 8), (f, 8), (n, 8)], (0 ≤ x.1 ∧ x.1 < 18446744073709551616) ∧ (-9223372036854775808 ≤ x.2 ∧ x.2 ≤ 9223372036854775807) := fun x hx => by
    simp only [List.mem_cons, List.not_mem_nil, or_false] at hx
    rcases hx with rfl | rfl | rfl | rfl <;> simp only <;> omega
  have HOK := Lib.hid hok
  have hc := held_cmd S w.heap.size 1 t f n (.slice a L cap) (by simp)
  have y0 : ∀ s : HeldW w [(w.heap.size + 1, .cells #[.int .u64 1, .int .i64 1] 64 (0, 0)), (w.heap.size, cmdO 1 t f n (.slice a L cap))], s.w.cell? ⟨w.heap.size + 1, 0, none⟩ = some (.int .u64 1) := fun s => cell_of (s.blocks (w.heap.size + 1, .cells #[.int .u64 1, .int .i64 1] 64 (0, 0)) (by simp)) 0
  have y1 : ∀ s : HeldW w [(w.heap.size + 1, .cells #[.int .u64 1, .int .i64 1] 64 (0, 0)), (w.heap.size, cmdO 1 t f n (.slice a L cap))], s.w.cell? ⟨w.heap.size + 1, 1, none⟩ = some (.int .i64 1) := fun s => cell_of (s.blocks (w.heap.size + 1, .cells #[.int .u64 1, .int .i64 1] 64 (0, 0)) (by simp)) 1
  obtain ⟨e0, e1, e2, e3, e4, _⟩ := hc
  clear ht hf hn hok hS
  go_enter Try.func26, Try.ntmps26
  go_wp2_with fail
  rw [HS.out]
  clear e0 e1 e2 e3 e4
  refine wp_region_class_tail 10 _ _ (by kernel_rfl) (by kernel_rfl) (S).below (S).blocks (fun hne => ?_)
  simp only [List.take_succ_cons, List.take_zero, List.drop_succ_cons, List.drop_zero]
  obtain ⟨e0, e1, e2, e3, e4⟩ := held_cmdA (S) (w.heap.size) 1 t f n (.slice a L cap) (by simp)
  repeat (go_big_quiet_step ((first | (go_at_call_of 25 (Value.int .i64 t); exact HeldW.call (h1 _)) | (go_at_call_of 25 (Value.int .i64 f); exact HeldW.call (h2 _)) | (go_at_call_of 25 (Value.int .i64 n); exact HeldW.call (h3 _)))))
  refine wpQuiet_nil ?_
  rintro _ ⟨s2, rfl⟩
  clear hne e0 e1 e2 e3 e4
  go_wp2_with fail
  clear y0 y1 h1 h2 h3
  go_ret
  exact ⟨s2.w.heap.size, rfl, s2.below.alloc s2.below.size _, s2.below.size, fields_row (World.alloc_heap_new s2.w _) _ rfl (by simp) HOK.out⟩

set_option maxRecDepth 100000 in
set_option maxHeartbeats 4000000 in
theorem ffields_lit (t f n : Int) (ht : 0 ≤ t ∧ t ≤ 9223372036854775807) (a : Option Addr) (L cap : Nat) (hL : L ≤ 9223372036854775807) (w : World) : Calls Try.prog 26 #[cmdV 2 t f n (.slice a L cap)] w (GivesF [(2, 1), (t, 8), ((L : Int), 8)] w) := by
  obtain ⟨S, hS⟩ := start2 w (cmdO 2 t f n (.slice a L cap)) (.cells #[.int .u64 2, .int .i64 1] 64 (0, 0))
  have HS := Lib.hid hS
  have h1 := fun s : HeldW w [(w.heap.size + 1, .cells #[.int .u64 2, .int .i64 1] 64 (0, 0)), (w.heap.size, cmdO 2 t f n (.slice a L cap))] => flength_any t ht.1 ht.2 s.w
  have h2 := fun s : HeldW w [(w.heap.size + 1, .cells #[.int .u64 2, .int .i64 1] 64 (0, 0)), (w.heap.size, cmdO 2 t f n (.slice a L cap))] => flength_any (L : Int) (by omega) (by omega) s.w
  have hok : ∀ x ∈ [((2 : Int), (1 : Int)), (t, 8), ((L : Int), 8)], (0 ≤ x.1 ∧ x.1 < 18446744073709551616) ∧ (-9223372036854775808 ≤ x.2 ∧ x.2 ≤ 9223372036854775807) := fun x hx => by
    simp only [List.mem_cons, List.not_mem_nil, or_false] at hx
    rcases hx with rfl | rfl | rfl <;> simp only <;> omega
  have HOK := Lib.hid hok
  have hc := held_cmd S w.heap.size 2 t f n (.slice a L cap) (by simp)
  have y0 : ∀ s : HeldW w [(w.heap.size + 1, .cells #[.int .u64 2, .int .i64 1] 64 (0, 0)), (w.heap.size, cmdO 2 t f n (.slice a L cap))], s.w.cell? ⟨w.heap.size + 1, 0, none⟩ = some (.int .u64 2) := fun s => cell_of (s.blocks (w.heap.size + 1, .cells #[.int .u64 2, .int .i64 1] 64 (0, 0)) (by simp)) 0
  have y1 : ∀ s : HeldW w [(w.heap.size + 1, .cells #[.int .u64 2, .int .i64 1] 64 (0, 0)), (w.heap.size, cmdO 2 t f n (.slice a L cap))], s.w.cell? ⟨w.heap.size + 1, 1, none⟩ = some (.int .i64 1) := fun s => cell_of (s.blocks (w.heap.size + 1, .cells #[.int .u64 2, .int .i64 1] 64 (0, 0)) (by simp)) 1
  obtain ⟨e0, e1, e2, e3, e4, _⟩ := hc
  clear ht hok hS hL
  go_enter Try.func26, Try.ntmps26
  go_wp2_with fail
  rw [HS.out]
  clear e0 e1 e2 e3 e4
  refine wp_region_class_tail 8 _ _ (by kernel_rfl) (by kernel_rfl) (S).below (S).blocks (fun hne => ?_)
  simp only [List.take_succ_cons, List.take_zero, List.drop_succ_cons, List.drop_zero]
  obtain ⟨e0, e1, e2, e3, e4⟩ := held_cmdA (S) (w.heap.size) 2 t f n (.slice a L cap) (by simp)
  repeat (go_big_quiet_step ((first | (go_at_call_of 25 (Value.int .i64 t); exact HeldW.call (h1 _)) | (go_at_call_of 25 (Value.int .i64 (L : Int)); exact HeldW.call (h2 _)))))
  refine wpQuiet_nil ?_
  rintro _ ⟨s2, rfl⟩
  clear hne e0 e1 e2 e3 e4
  go_wp2_with fail
  clear y0 y1 h1 h2
  go_ret
  exact ⟨s2.w.heap.size, rfl, s2.below.alloc s2.below.size _, s2.below.size, fields_row (World.alloc_heap_new s2.w _) _ rfl (by simp) HOK.out⟩

theorem ffields_any (c : Cmd) (w : World) (hk : kindB c.core = true) (hg : goodB c.core = true) (hl : c.l.length ≤ 4611686018427387903) : Calls Try.prog 26 #[cmdW c] w (GivesF (fieldsK c.core) w) := by
  obtain ⟨k, t, f, n, l, a, cap⟩ := c
  unfold goodB at hg
  unfold kindB at hk
  simp only [Bool.and_eq_true, Bool.or_eq_true, beq_iff_eq] at hg hk hl
  obtain ⟨⟨⟨ht, hf⟩, hn⟩, -⟩ := hg
  have ht := inB_iff.1 ht
  have hf := inB_iff.1 hf
  have hn := inB_iff.1 hn
  rcases hk with rfl | rfl
  · exact ffields_copy t f n (by omega) (by omega) (by omega) a l.length cap w
  · exact ffields_lit t f n (by omega) a l.length cap (by omega) w

/-- The bytes of numbers that fit. -/
theorem fnumbers_any (fs : List (Int × Int)) (fa : Option Addr) (fcap : Nat) (w : World) (hf : FieldsIn w fa fs fcap) (hn : fs.length ≤ 1000) (hfit : fs.all fitF = true) : Calls Try.prog 24 #[.slice fa fs.length fcap] w (MakesR 5 ((encs fs).map (Value.int .u8)) w) := by
  have ha := append_any [] none 0 fs fa fcap w (nil_in w) (by simp) hf (by omega)
  have HF := Lib.hid hfit
  generalize fs.length = N at ha ⊢
  simp only [List.length_nil] at ha
  clear hf hn hfit
  go_enter Try.func24, Try.ntmps24
  go_wp2_with fail
  refine ha.mono ?_
  rintro e w3 HPO
  obtain ⟨v3, rfl, s3, rfl⟩ := append_yes HF.out HPO
  clear HPO ha
  go_wp2
  go_ret
  exact ⟨v3, rfl, s3.as (by rw [List.nil_append]), rfl⟩

theorem fit_len {v : Int} (h : 0 ≤ v ∧ v < 18446744073709551616) : fitF (v, 8) = true := by
  show fitB v 8 = true
  unfold fitB
  simp
  omega
theorem fit_cnt {v : Int} (h : 0 ≤ v ∧ v < 4294967296) : fitF (v, 4) = true := by
  show fitB v 4 = true
  unfold fitB
  simp
  omega
theorem fit_fields {c : Core7} (hk : kindB c = true) (hg : goodB c = true) (hl : c.2.2.2.2.length ≤ 4611686018427387903) : (fieldsK c).all fitF = true := by
  unfold goodB at hg
  simp only [Bool.and_eq_true] at hg
  obtain ⟨⟨⟨ht, hf⟩, hn⟩, -⟩ := hg
  have ht := inB_iff.1 ht
  have hf := inB_iff.1 hf
  have hn := inB_iff.1 hn
  have e1 : fitF (1, 1) = true := by decide +kernel
  have e2 : fitF (2, 1) = true := by decide +kernel
  unfold fieldsK
  split
  · simp only [List.all_cons, List.all_nil, e1, fit_len (v := c.2.1) (by omega), fit_len (v := c.2.2.1) (by omega), fit_len (v := c.2.2.2.1) (by omega), Bool.and_true]
  · simp only [List.all_cons, List.all_nil, e2, fit_len (v := c.2.1) (by omega), fit_len (v := (c.2.2.2.2.length : Int)) (by omega), Bool.and_true]
/-- A command's numbers and data are its encoding. -/
theorem encs_fieldsK {c : Core7} (hk : kindB c = true) (hg : goodB c = true) : encs (fieldsK c) ++ c.2.2.2.2 = encK c := by
  unfold kindB at hk
  unfold goodB at hg
  simp only [Bool.or_eq_true, beq_iff_eq, Bool.and_eq_true] at hk hg
  have e1 : enc1 1 1 = [1] := by decide +kernel
  have e2 : enc1 2 1 = [2] := by decide +kernel
  rcases hk with hk | hk
  · rw [encK_copy hk]
    unfold fieldsK encs
    rw [if_pos hk]
    have hx := hg.2
    rw [if_pos hk] at hx
    have hx : c.2.2.2.2 = [] := by simpa using hx
    rw [hx]
    simp only [List.flatMap_cons, List.flatMap_nil, List.append_nil]
    have : (1 : Int).toNat = 1 := rfl
    have : (8 : Int).toNat = 8 := rfl
    simp only [*]
  · rw [encK_lit hk]
    unfold fieldsK encs
    rw [if_neg (by omega)]
    simp only [List.flatMap_cons, List.flatMap_nil, List.append_nil, List.append_assoc]
    have : (1 : Int).toNat = 1 := rfl
    have : (8 : Int).toNat = 8 := rfl
    simp only [*]
theorem encs_len {fs : List (Int × Int)} (h : fs.all fitF = true) (hn : fs.length ≤ 4) : (encs fs).length ≤ 32 := by
  have := encs_length h
  omega
end Go.Proofs.Ytefonhnidkfbgaa
