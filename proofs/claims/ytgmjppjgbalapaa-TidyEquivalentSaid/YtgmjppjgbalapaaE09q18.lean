import Derived.Test.YtgmjppjgbalapaaE09q17
import Derived.Test.YtgmjppjgbalapaaE09q15
import Derived.Great.BuildSlice
import Derived.BigQuiet
import Derived.Test.YtgmjppjgbalapaaE09q4
import Derived.Test.YtgmjppjgbalapaaE09q10
/- The commands that Make finds, what they write, and that they are valid: plain mathematics. No Go text. -/
namespace Go.Proofs.Ytgmjppjgbalapaa
open Go.Proofs.Ytgmjppjgbalapaa.Plain01
set_option linter.unusedVariables false
set_option linter.unusedSimpArgs false

/-- Kind, To, From, Len, Data. -/
abbrev Core8 : Type := Int × Int × Int × Int × List Int
/-- The literal of the bytes from b to p. -/
def litC (new : List Int) (b p : Nat) : List Core8 := if b = p then [] else [(2, (b : Int), 0, 0, (new.drop b).take (p - b))]
/-- The commands from offset p on, the bytes from b to p being literal. -/
def greedy (F : Nat → Option (Nat × Nat)) (new : List Int) : Nat → Nat → Nat → List Core8
  | 0, _, b => litC new b new.length
  | k + 1, p, b => if p < new.length then
      match F p with
      | some (q, n) => litC new b p ++ [(1, (p : Int), (q : Int), (n : Int), [])] ++ greedy F new k (p + n) (p + n)
      | none => greedy F new k (p + 1) b
    else litC new b new.length
theorem greedy_copy {F : Nat → Option (Nat × Nat)} {new : List Int} {k p b q n : Nat} (hp : p < new.length) (h : F p = some (q, n)) : greedy F new (k + 1) p b = litC new b p ++ [(1, (p : Int), (q : Int), (n : Int), [])] ++ greedy F new k (p + n) (p + n) := by
  rw [greedy, if_pos hp, h]
theorem greedy_lit {F : Nat → Option (Nat × Nat)} {new : List Int} {k p b : Nat} (hp : p < new.length) (h : F p = none) : greedy F new (k + 1) p b = greedy F new k (p + 1) b := by
  rw [greedy, if_pos hp, h]
theorem greedy_end {F : Nat → Option (Nat × Nat)} {new : List Int} {k p b : Nat} (hp : new.length ≤ p) : greedy F new k p b = litC new b new.length := by
  cases k with
  | zero => rfl
  | succ k => rw [greedy, if_neg (by omega)]
/-- The commands of Make. -/
def makeC (old new : List Int) (block : Int) : List Core8 := greedy (findN old new block) new (new.length + 1) 0 0

/-- What a command writes. -/
def contC (old : List Int) (c : Core8) : List Int := if c.1 = 1 then (old.drop c.2.2.1.toNat).take c.2.2.2.1.toNat else c.2.2.2.2
/-- How many bytes that is. -/
def lenC (c : Core8) : Int := wlen c.1 c.2.2.2.1 c.2.2.2.2.length
/-- A command that Make may return. -/
def GoodC (o n : Nat) (c : Core8) : Prop := (c.1 = 1 ∧ 0 ≤ c.2.1 ∧ 0 ≤ c.2.2.1 ∧ 1 ≤ c.2.2.2.1 ∧ c.2.2.2.2 = [] ∧ c.2.2.1 + c.2.2.2.1 ≤ o ∧ c.2.1 + c.2.2.2.1 ≤ n) ∨ (c.1 = 2 ∧ 0 ≤ c.2.1 ∧ c.2.2.1 = 0 ∧ c.2.2.2.1 = 0 ∧ 1 ≤ c.2.2.2.2.length ∧ c.2.1 + c.2.2.2.2.length ≤ n)
theorem litC_good {new : List Int} {b p o : Nat} (hb : b ≤ p) (hp : p ≤ new.length) : ∀ c ∈ litC new b p, GoodC o new.length c := by
  intro c hc
  unfold litC at hc
  split at hc
  · simp at hc
  · obtain rfl := List.mem_singleton.1 hc
    right
    refine ⟨rfl, by simp, rfl, rfl, ?_, ?_⟩
    · simp only [List.length_take, List.length_drop]; omega
    · simp only [List.length_take, List.length_drop]; omega
/-- Each begins where the one before it ends; together they write the file from b on. -/
theorem litC_chain {new old : List Int} {b p : Nat} (hb : b ≤ p) (hp : p ≤ new.length) {T : List (Int × Int)} (hT : Chain new.length p T) :
    Chain new.length b ((litC new b p).map (fun c => (c.2.1, lenC c)) ++ T) ∧ (litC new b p).flatMap (contC old) = (new.drop b).take (p - b) := by
  unfold litC
  split
  · rename_i h
    subst h
    exact ⟨hT, by simp⟩
  · refine ⟨⟨rfl, ?_⟩, by simp [contC]⟩
    have : ((b : Int) + lenC (2, (b : Int), 0, 0, (new.drop b).take (p - b))) = (p : Int) := by
      unfold lenC wlen
      rw [if_neg (by simp)]
      simp only [List.length_take, List.length_drop]
      omega
    simp only [this]
    exact hT
theorem greedy_ok {F : Nat → Option (Nat × Nat)} {old new : List Int} (hF : ∀ p q n, F p = some (q, n) → 1 ≤ n ∧ q + n ≤ old.length ∧ p + n ≤ new.length ∧ (old.drop q).take n = (new.drop p).take n) :
    ∀ (k p b : Nat), b ≤ p → p ≤ new.length → (∀ c ∈ greedy F new k p b, GoodC old.length new.length c) ∧ Chain new.length b ((greedy F new k p b).map (fun c => (c.2.1, lenC c))) ∧ (greedy F new k p b).flatMap (contC old) = new.drop b := by
  have hend : ∀ b, b ≤ new.length → (∀ c ∈ litC new b new.length, GoodC old.length new.length c) ∧ Chain new.length b ((litC new b new.length).map (fun c => (c.2.1, lenC c))) ∧ (litC new b new.length).flatMap (contC old) = new.drop b := fun b hb => by
    have := litC_chain (old := old) (T := []) hb (Nat.le_refl _) rfl
    rw [List.append_nil] at this
    exact ⟨litC_good hb (Nat.le_refl _), this.1, by rw [this.2]; exact List.take_of_length_le (by simp)⟩
  intro k
  induction k with
  | zero => intro p b hb hp; exact hend b (by omega)
  | succ k ih =>
    intro p b hb hp
    by_cases hlt : p < new.length
    · cases h : F p with
      | none => rw [greedy_lit hlt h]; exact ih (p + 1) b (by omega) (by omega)
      | some qn =>
        obtain ⟨q, n⟩ := qn
        obtain ⟨h1, h2, h3, h4⟩ := hF p q n h
        obtain ⟨i1, i2, i3⟩ := ih (p + n) (p + n) (Nat.le_refl _) h3
        rw [greedy_copy hlt h]
        have hcp : Chain new.length p ((1, (p : Int), (q : Int), (n : Int), ([] : List Int)) :: greedy F new k (p + n) (p + n) |>.map (fun c => (c.2.1, lenC c))) := by
          refine ⟨rfl, ?_⟩
          have : ((p : Int) + lenC (1, (p : Int), (q : Int), (n : Int), ([] : List Int))) = ((p + n : Nat) : Int) := by unfold lenC wlen; simp
          simp only [this]
          exact i2
        obtain ⟨c1, c2⟩ := litC_chain (old := old) hb hp hcp
        refine ⟨fun c hc => ?_, ?_, ?_⟩
        · rw [List.append_assoc] at hc
          rcases List.mem_append.1 hc with hc | hc
          · exact litC_good hb hp c hc
          · rcases List.mem_cons.1 hc with rfl | hc
            · left
              exact ⟨rfl, by simp, by simp, by simp only; omega, rfl, by simp only; omega, by simp only; omega⟩
            · exact i1 c hc
        · rw [List.append_assoc, List.map_append]
          exact c1
        · rw [List.append_assoc, List.flatMap_append, c2, List.flatMap_append, i3]
          have : ([(1, (p : Int), (q : Int), (n : Int), ([] : List Int))] : List Core8).flatMap (contC old) = (new.drop p).take n := by
            simp [contC, h4]
          rw [this, ← List.drop_drop, List.take_append_drop]
          rw [show new.drop p = (new.drop b).drop (p - b) by rw [List.drop_drop, show b + (p - b) = p by omega], List.take_append_drop]
    · rw [greedy_end (by omega)]
      exact hend b (by omega)
theorem makeC_ok (old new : List Int) (block : Int) : (∀ c ∈ makeC old new block, GoodC old.length new.length c) ∧ Chain new.length 0 ((makeC old new block).map (fun c => (c.2.1, lenC c))) ∧ (makeC old new block).flatMap (contC old) = new := by
  have := greedy_ok (F := findN old new block) (old := old) (new := new) (fun p q n h => findN_some h) (new.length + 1) 0 0 (Nat.le_refl _) (Nat.zero_le _)
  rw [List.drop_zero] at this
  exact this

/-- A command is good as a command of a delta. -/
theorem good_single {o n : Nat} {c : Cmd} (ho : o ≤ 4611686018427387903) (hn : n ≤ 4611686018427387903) (h : GoodC o n c.core) : single o n c = 0 := by
  unfold GoodC Cmd.core at h
  simp only at h
  unfold single Cmd.code chk Cmd.w wlen
  rcases h with ⟨h1, h2, h3, h4, h5, h6, h7⟩ | ⟨h1, h2, h3, h4, h5, h6⟩
  · rw [h1, h5]
    have e1 : okE (c.t, c.n) = true := okE_iff.2 ⟨h2, by simp only; omega, by simp only; omega⟩
    have e2 : okE (c.f, c.n) = true := okE_iff.2 ⟨h3, by simp only; omega, by simp only; omega⟩
    simp [e1, e2]
    split
    · omega
    · rw [if_neg (by omega), if_neg (by omega)]
  · rw [h1, h3, h4]
    have e1 : okE (c.t, (c.l.length : Int)) = true := okE_iff.2 ⟨h2, by simp only; omega, by simp only; omega⟩
    simp [e1]
    rw [if_neg (by intro h; rw [h] at h5; simp at h5)]
    simp
    omega
theorem cmd_tgt_core (c : Cmd) : c.tgt = (c.core.2.1, lenC c.core) := rfl
/-- The delta of Make is valid; its commands ascend. -/
theorem make_valid {old new : List Int} {block : Int} {cs : List Cmd} (hc : cores cs = makeC old new block) (ho : old.length ≤ 4611686018427387903) (hn : new.length ≤ 4611686018427387903) : ValidD old.length new.length cs := by
  obtain ⟨h1, h2, -⟩ := makeC_ok old new block
  have hall : AllOK old.length new.length cs := fun c hm => good_single ho hn (h1 _ (by rw [← hc]; exact List.mem_map_of_mem (f := Cmd.core) hm))
  refine ⟨by unfold LensBad; omega, hall, ?_⟩
  have ht : cs.map Cmd.tgt = (makeC old new block).map (fun c => (c.2.1, lenC c)) := by
    rw [← hc]
    unfold cores
    rw [List.map_map]
    rfl
  rw [ht]
  refine chain_tiles _ _ (fun p hp => ?_) h2
  rw [← ht] at hp
  obtain ⟨c, hm, rfl⟩ := List.mem_map.1 hp
  exact (single_ok (hall c hm)).2.1.2.1
theorem chain_asc {n : Int} : ∀ (cs : List Cmd) (lo : Int), (∀ c ∈ cs, 0 ≤ c.w) → Chain n lo (cs.map Cmd.tgt) → Asc cs ∧ ∀ c ∈ cs, lo ≤ c.t := by
  intro cs
  induction cs with
  | nil => intro lo _ _; exact ⟨List.Pairwise.nil, fun c hc => by simp at hc⟩
  | cons a cs ih =>
    intro lo hw h
    obtain ⟨h1, h2⟩ := h
    have hwa := hw a List.mem_cons_self
    obtain ⟨i1, i2⟩ := ih _ (fun c hc => hw c (List.mem_cons_of_mem _ hc)) h2
    have h1' : a.t = lo := h1
    refine ⟨List.pairwise_cons.2 ⟨fun b hb => ?_, i1⟩, fun c hc => ?_⟩
    · have := i2 b hb
      show a.t ≤ b.t
      have : lo + a.w ≤ b.t := this
      omega
    · rcases List.mem_cons.1 hc with rfl | hc
      · omega
      · have : lo + a.w ≤ c.t := i2 c hc
        omega
theorem make_asc {old new : List Int} {block : Int} {cs : List Cmd} (hc : cores cs = makeC old new block) (ho : old.length ≤ 4611686018427387903) (hn : new.length ≤ 4611686018427387903) : Asc cs := by
  have hv := make_valid hc ho hn
  obtain ⟨h1, h2, -⟩ := makeC_ok old new block
  have ht : cs.map Cmd.tgt = (makeC old new block).map (fun c => (c.2.1, lenC c)) := by
    rw [← hc]
    unfold cores
    rw [List.map_map]
    rfl
  refine (chain_asc cs 0 (fun c hm => ?_) (by rw [ht]; exact h2)).1
  have := (single_ok (hv.all c hm)).2.1
  omega

/-- The bytes that a command of a valid delta writes. -/
def Cmd.cont (old : List Int) (c : Cmd) : List Int := contC old c.core
/-- The new file. -/
noncomputable def newF (old : List Int) (n : Nat) (cs : List Cmd) : List Int := (List.range n).map fun (i : Nat) => match cs[(findOf cs (i : Int)).toNat]? with
  | some c => ((c.cont old)[((i : Int) - c.t).toNat]?).getD 0
  | none => 0
end Go.Proofs.Ytgmjppjgbalapaa

namespace Go.Proofs.Ytgmjppjgbalapaa
open Go.Proofs.Ytgmjppjgbalapaa.Plain01
set_option linter.unusedVariables false
set_option linter.unusedSimpArgs false

theorem cont_len {o n : Int} {old : List Int} {c : Cmd} (ho : (old.length : Int) = o) (h : single o n c = 0) : ((c.cont old).length : Int) = c.w ∧ (c.k = 1 ∨ c.k = 2) := by
  obtain ⟨h1, h2, h3⟩ := single_ok h
  have hk : c.k = 1 ∨ c.k = 2 := (chk_ok h1).imp (·.1) (·.1)
  unfold Cmd.cont contC Cmd.core Cmd.w wlen at *
  simp only
  refine ⟨?_, hk⟩
  split
  · rename_i hk1
    rw [if_pos hk1] at h2
    have := h3 hk1
    rw [List.length_take, List.length_drop]
    omega
  · rfl
/-- A file that has the bytes of each command at its target is the new file. -/
theorem newF_eq {o : Int} {n : Nat} {old xs : List Int} {cs : List Cmd} (ho : (old.length : Int) = o) (hv : ValidD o n cs) (hl : xs.length = n) (hx : ∀ c ∈ cs, ∀ i : Nat, (i : Int) < c.w → xs[c.t.toNat + i]? = (c.cont old)[i]?) : xs = newF old n cs := by
  apply List.ext_getElem?
  intro i
  by_cases hi : i < n
  · unfold newF
    rw [List.getElem?_map, List.getElem?_range hi]
    simp only [Option.map_some]
    obtain ⟨j, c, hj, hc⟩ := (hv.some (i : Int)).1 ⟨by omega, by omega⟩
    have hfs := findOf_spec cs (i : Int)
    have hne : findOf cs (i : Int) ≠ -1 := fun h => hfs.no h c (List.mem_of_getElem? hj) hc
    obtain ⟨k, d, hk, hkd, hd, -⟩ := hfs.yes hne
    obtain rfl : k = j := hv.one hkd hj hd hc
    rw [hj] at hkd
    obtain rfl := Option.some.inj hkd
    rw [hk]
    simp only [Int.toNat_natCast, hj]
    have hm := List.mem_of_getElem? hj
    have hs := hv.all c hm
    have h2 := (single_ok hs).2.1
    unfold Cmd.has at hc
    have h1 := hx c hm ((i : Int) - c.t).toNat (by omega)
    rw [show c.t.toNat + ((i : Int) - c.t).toNat = i by omega] at h1
    have h3 : ((i : Int) - c.t).toNat < (c.cont old).length := by have := (cont_len ho hs).1; omega
    rw [h1, List.getElem?_eq_getElem h3]
    rfl
  · rw [List.getElem?_eq_none (by omega), List.getElem?_eq_none (by unfold newF; simp; omega)]
theorem newF_length (old : List Int) (n : Nat) (cs : List Cmd) : (newF old n cs).length = n := by simp [newF]
/-- The bytes of each command lie at its target. -/
theorem newF_at {o : Int} {n : Nat} {old : List Int} {cs : List Cmd} (ho : (old.length : Int) = o) (hv : ValidD o n cs) {c : Cmd} (hm : c ∈ cs) {i : Nat} (hi : (i : Int) < c.w) : (newF old n cs)[c.t.toNat + i]? = (c.cont old)[i]? := by
  have hs := hv.all c hm
  have h2 := (single_ok hs).2.1
  obtain ⟨j, hj⟩ := List.getElem?_of_mem hm
  have hc : c.has ((c.t.toNat + i : Nat) : Int) := by unfold Cmd.has; omega
  unfold newF
  rw [List.getElem?_map, List.getElem?_range (by omega)]
  simp only [Option.map_some]
  have hfs := findOf_spec cs ((c.t.toNat + i : Nat) : Int)
  have hne : findOf cs ((c.t.toNat + i : Nat) : Int) ≠ -1 := fun h => hfs.no h c hm hc
  obtain ⟨k, d, hk, hkd, hd, -⟩ := hfs.yes hne
  obtain rfl : k = j := hv.one hkd hj hd hc
  rw [hj] at hkd
  obtain rfl := Option.some.inj hkd
  rw [hk]
  simp only [Int.toNat_natCast, hj]
  have h3 : i < (c.cont old).length := by have := (cont_len ho hs).1; omega
  rw [show ((((c.t.toNat + i : Nat) : Int) - c.t).toNat) = i by omega, List.getElem?_eq_getElem h3]
  rfl
theorem newF_perm {o : Int} {n : Nat} {old : List Int} {cs ds : List Cmd} (ho : (old.length : Int) = o) (hv : ValidD o n cs) (hp : ds.Perm cs) : newF old n ds = newF old n cs :=
  newF_eq ho hv (newF_length _ _ _) (fun c hm i hi => newF_at ho (hv.perm hp) (hp.mem_iff.2 hm) hi)
theorem cont_core {old : List Int} {c d : Cmd} (h : c.core = d.core) : c.cont old = d.cont old := by unfold Cmd.cont; rw [h]
theorem newF_cores {o : Int} {n : Nat} {old : List Int} {cs ds : List Cmd} (ho : (old.length : Int) = o) (hv : ValidD o n cs) (hc : cores ds = cores cs) : newF old n ds = newF old n cs :=
  newF_eq ho hv (newF_length _ _ _) (fun c hm i hi => by
    have hm2 : c.core ∈ cores ds := by rw [hc]; exact List.mem_map_of_mem (f := Cmd.core) hm
    obtain ⟨d, hd, he⟩ := List.mem_map.1 hm2
    have hw : d.w = c.w := by have := congrArg lenC he; exact this
    have ht : d.t = c.t := by have := congrArg (fun q : Core8 => q.2.1) he; exact this
    have := newF_at ho (valid_cores hc hv) hd (i := i) (by omega)
    rw [ht, cont_core he] at this
    exact this)
theorem cont_get {old : List Int} : ∀ (cs : List Cmd), (∀ c ∈ cs, ((c.cont old).length : Int) = c.w) → ∀ (k : Nat) (c : Cmd), cs[k]? = some c → 0 ≤ posOf cs k ∧ ∀ i : Nat, (i : Int) < c.w → (cs.flatMap (Cmd.cont old))[(posOf cs k).toNat + i]? = (c.cont old)[i]? := by
  intro cs
  induction cs with
  | nil => intro _ k c h; simp at h
  | cons a cs ih =>
    intro hw k c h
    have ha := hw a List.mem_cons_self
    cases k with
    | zero =>
      simp only [List.getElem?_cons_zero, Option.some.injEq] at h
      subst h
      refine ⟨by simp [posOf], fun i hi => ?_⟩
      rw [show (posOf (a :: cs) 0).toNat + i = i by simp [posOf], List.flatMap_cons, List.getElem?_append_left (by omega)]
    | succ k =>
      obtain ⟨h1, h2⟩ := ih (fun d hd => hw d (List.mem_cons_of_mem _ hd)) k c (by simpa using h)
      have e : posOf (a :: cs) (k + 1) = a.w + posOf cs k := by unfold posOf; simp
      refine ⟨by omega, fun i hi => ?_⟩
      rw [List.flatMap_cons, List.getElem?_append_right (by omega), ← h2 i hi]
      congr 1
      omega
theorem flat_length {old : List Int} : ∀ (cs : List Cmd), (∀ c ∈ cs, ((c.cont old).length : Int) = c.w) → ((cs.flatMap (Cmd.cont old)).length : Int) = posOf cs cs.length := by
  intro cs
  induction cs with
  | nil => intro _; simp [posOf]
  | cons a cs ih =>
    intro hw
    have ha := hw a List.mem_cons_self
    have hi := ih (fun d hd => hw d (List.mem_cons_of_mem _ hd))
    have e : posOf (a :: cs) (a :: cs).length = a.w + posOf cs cs.length := by unfold posOf; simp
    rw [List.flatMap_cons, List.length_append, e]
    omega
/-- In ascending order, the commands write the new file one behind the other. -/
theorem newF_flat {o : Int} {n : Nat} {old : List Int} {cs : List Cmd} (ho : (old.length : Int) = o) (hv : ValidD o n cs) (ha : Asc cs) : cs.flatMap (Cmd.cont old) = newF old n cs := by
  have hw : ∀ c ∈ cs, ((c.cont old).length : Int) = c.w := fun c hm => (cont_len ho (hv.all c hm)).1
  obtain ⟨h1, h2⟩ := sorted_pos hv ha
  refine newF_eq ho hv ?_ (fun c hm i hi => ?_)
  · have := flat_length cs hw
    omega
  · obtain ⟨k, hk⟩ := List.getElem?_of_mem hm
    have h3 := h1 k c hk
    rw [h3]
    exact (cont_get cs hw k c hk).2 i hi
theorem make_new {old new : List Int} {block : Int} {cs : List Cmd} (hc : cores cs = makeC old new block) (ho : old.length ≤ 4611686018427387903) (hn : new.length ≤ 4611686018427387903) : newF old new.length cs = new := by
  rw [← newF_flat (o := old.length) rfl (make_valid hc ho hn) (make_asc hc ho hn)]
  have h := (makeC_ok old new block).2.2
  rw [← hc] at h
  unfold cores at h
  rw [List.flatMap_map] at h
  exact h
end Go.Proofs.Ytgmjppjgbalapaa

/- Canonical forms: plain mathematics. No Go text. -/
namespace Go.Proofs.Ytgmjppjgbalapaa
open Go.Proofs.Ytgmjppjgbalapaa.Plain01
set_option linter.unusedVariables false

/-- Two commands can be merged. -/
def canM (a b : Core8) : Prop := a.1 = b.1 ∧ b.2.1 = a.2.1 + lenC a ∧ (a.1 = 1 → b.2.2.1 = a.2.2.1 + a.2.2.2.1)
instance (a b : Core8) : Decidable (canM a b) := by unfold canM; exact inferInstance
/-- The merged command. -/
def joinM (a b : Core8) : Core8 := if a.1 = 1 then (a.1, a.2.1, a.2.2.1, a.2.2.2.1 + b.2.2.2.1, a.2.2.2.2) else (a.1, a.2.1, a.2.2.1, a.2.2.2.1, a.2.2.2.2 ++ b.2.2.2.2)
def mergeF : Core8 → List Core8 → List Core8
  | m, [] => [m]
  | m, c :: cs => if canM m c then mergeF (joinM m c) cs else m :: mergeF c cs
def mergeL : List Core8 → List Core8
  | [] => []
  | c :: cs => mergeF c cs

/-- A valid command, by itself. -/
def GoodB (c : Core8) : Prop := (c.1 = 1 ∧ 0 ≤ c.2.1 ∧ 0 ≤ c.2.2.1 ∧ 1 ≤ c.2.2.2.1 ∧ c.2.2.2.2 = [] ∧ c.2.2.1 + c.2.2.2.1 ≤ 4611686018427387903 ∧ c.2.1 + c.2.2.2.1 ≤ 4611686018427387903) ∨ (c.1 = 2 ∧ 0 ≤ c.2.1 ∧ c.2.2.1 = 0 ∧ c.2.2.2.1 = 0 ∧ 1 ≤ c.2.2.2.2.length ∧ c.2.1 + c.2.2.2.2.length ≤ 4611686018427387903)
theorem GoodB.len {c : Core8} (h : GoodB c) : 1 ≤ lenC c ∧ 0 ≤ c.2.1 ∧ c.2.1 + lenC c ≤ 4611686018427387903 := by
  unfold lenC wlen
  rcases h with ⟨h1, h2, h3, h4, h5, h6, h7⟩ | ⟨h1, h2, h3, h4, h5, h6⟩
  · rw [if_pos h1]; omega
  · rw [if_neg (by omega)]; omega
theorem GoodB.join {a b : Core8} (ha : GoodB a) (hb : GoodB b) (h : canM a b) : GoodB (joinM a b) ∧ lenC (joinM a b) = lenC a + lenC b ∧ (joinM a b).1 = a.1 ∧ (joinM a b).2.1 = a.2.1 ∧ (joinM a b).2.2.1 = a.2.2.1 := by
  obtain ⟨e1, e2, e3⟩ := h
  unfold joinM lenC wlen at *
  rcases ha with ⟨h1, h2, h3, h4, h5, h6, h7⟩ | ⟨h1, h2, h3, h4, h5, h6⟩
  · rw [if_pos h1] at e2 ⊢
    have hb1 : b.1 = 1 := by omega
    have e3 := e3 h1
    rcases hb with ⟨k1, k2, k3, k4, k5, k6, k7⟩ | ⟨k1, k2, k3, k4, k5, k6⟩
    · refine ⟨.inl ⟨h1, h2, h3, by simp only; omega, h5, by simp only; omega, by simp only; omega⟩, ?_, rfl, rfl, rfl⟩
      simp only [h1, hb1, if_true]
    · omega
  · rw [if_neg (by omega)] at e2 ⊢
    rcases hb with ⟨k1, k2, k3, k4, k5, k6, k7⟩ | ⟨k1, k2, k3, k4, k5, k6⟩
    · omega
    · refine ⟨.inr ⟨h1, h2, h3, h4, by simp only [List.length_append]; omega, by simp only [List.length_append]; omega⟩, ?_, rfl, rfl, rfl⟩
      simp only [h1, k1]
      simp

theorem mergeF_head (c : Core8) : ∀ cs : List Core8, (∀ d ∈ c :: cs, GoodB d) → ∃ h T, mergeF c cs = h :: T ∧ h.1 = c.1 ∧ h.2.1 = c.2.1 ∧ h.2.2.1 = c.2.2.1 := by
  intro cs
  induction cs generalizing c with
  | nil => intro _; exact ⟨c, [], rfl, rfl, rfl, rfl⟩
  | cons d cs ih =>
    intro hg
    unfold mergeF
    split
    · rename_i hm
      obtain ⟨j1, j2, j3, j4, j5⟩ := (hg c List.mem_cons_self).join (hg d (by simp)) hm
      obtain ⟨h, T, e, h1, h2, h3⟩ := ih (joinM c d) (fun x hx => by
        rcases List.mem_cons.1 hx with rfl | hx
        · exact j1
        · exact hg x (by simp [hx]))
      exact ⟨h, T, e, h1.trans j3, h2.trans j4, h3.trans j5⟩
    · exact ⟨c, _, rfl, rfl, rfl, rfl⟩
theorem mergeF_good (c : Core8) : ∀ cs : List Core8, (∀ d ∈ c :: cs, GoodB d) → ∀ d ∈ mergeF c cs, GoodB d := by
  intro cs
  induction cs generalizing c with
  | nil => intro h d hd; exact h d hd
  | cons e cs ih =>
    intro hg d hd
    unfold mergeF at hd
    split at hd
    · rename_i hm
      exact ih (joinM c e) (fun x hx => by
        rcases List.mem_cons.1 hx with rfl | hx
        · exact ((hg c List.mem_cons_self).join (hg e (by simp)) hm).1
        · exact hg x (by simp [hx])) d hd
    · rcases List.mem_cons.1 hd with rfl | hd
      · exact hg _ List.mem_cons_self
      · exact ih e (fun x hx => hg x (List.mem_cons_of_mem _ hx)) d hd
theorem mergeF_length (c : Core8) : ∀ cs : List Core8, (mergeF c cs).length ≤ cs.length + 1 := by
  intro cs
  induction cs generalizing c with
  | nil => simp [mergeF]
  | cons e cs ih =>
    unfold mergeF
    split
    · have := ih (joinM c e); simp only [List.length_cons]; omega
    · have := ih e; simp only [List.length_cons]; omega
/-- No two neighbors can be merged. -/
def NoM : List Core8 → Prop
  | [] => True
  | a :: L => (∀ b T, L = b :: T → ¬ canM a b) ∧ NoM L
theorem mergeF_noM (c : Core8) : ∀ cs : List Core8, (∀ d ∈ c :: cs, GoodB d) → NoM (mergeF c cs) := by
  intro cs
  induction cs generalizing c with
  | nil => intro _; exact ⟨(fun b T h => by cases h), trivial⟩
  | cons e cs ih =>
    intro hg
    unfold mergeF
    split
    · rename_i hm
      exact ih (joinM c e) (fun x hx => by
        rcases List.mem_cons.1 hx with rfl | hx
        · exact ((hg c List.mem_cons_self).join (hg e (by simp)) hm).1
        · exact hg x (by simp [hx]))
    · rename_i hm
      refine ⟨fun b T hb hc => hm ?_, ih e (fun x hx => hg x (List.mem_cons_of_mem _ hx))⟩
      obtain ⟨h, T', e', h1, h2, h3⟩ := mergeF_head e cs (fun x hx => hg x (List.mem_cons_of_mem _ hx))
      rw [e'] at hb
      obtain ⟨rfl, -⟩ := List.cons.inj hb
      obtain ⟨c1, c2, c3⟩ := hc
      exact ⟨c1.trans h1, h2 ▸ c2, fun hk => h3 ▸ c3 hk⟩
theorem mergeF_noop (c : Core8) : ∀ cs : List Core8, NoM (c :: cs) → mergeF c cs = c :: cs := by
  intro cs
  induction cs generalizing c with
  | nil => intro _; rfl
  | cons e cs ih =>
    intro h
    unfold mergeF
    rw [if_neg (h.1 e cs rfl), ih e h.2]
abbrev tgtC (c : Core8) : Int × Int := (c.2.1, lenC c)
theorem mergeF_chain {n : Int} (c : Core8) : ∀ (cs : List Core8) (lo : Int), (∀ d ∈ c :: cs, GoodB d) → Chain n lo ((c :: cs).map tgtC) → Chain n lo ((mergeF c cs).map tgtC) := by
  intro cs
  induction cs generalizing c with
  | nil => intro lo _ h; exact h
  | cons e cs ih =>
    intro lo hg h
    unfold mergeF
    split
    · rename_i hm
      obtain ⟨j1, j2, j3, j4, j5⟩ := (hg c List.mem_cons_self).join (hg e (by simp)) hm
      refine ih (joinM c e) lo (fun x hx => by
        rcases List.mem_cons.1 hx with rfl | hx
        · exact j1
        · exact hg x (by simp [hx])) ?_
      obtain ⟨h1, h2, h3⟩ := h
      refine ⟨j4.trans h1, ?_⟩
      show Chain n (lo + lenC (joinM c e)) _
      rw [j2, ← Int.add_assoc]
      exact h3
    · exact ⟨h.1, ih e _ (fun x hx => hg x (List.mem_cons_of_mem _ hx)) h.2⟩
theorem join_cont {old : List Int} {a b : Core8} (ha : GoodB a) (hb : GoodB b) (h : canM a b) : contC old (joinM a b) = contC old a ++ contC old b := by
  obtain ⟨e1, e2, e3⟩ := h
  rcases ha with ⟨h1, h2, h3, h4, h5, h6, h7⟩ | ⟨h1, h2, h3, h4, h5, h6⟩
  · have hb1 : b.1 = 1 := by omega
    have e3 := e3 h1
    have hj : joinM a b = (a.1, a.2.1, a.2.2.1, a.2.2.2.1 + b.2.2.2.1, a.2.2.2.2) := by unfold joinM; rw [if_pos h1]
    rw [hj]
    unfold contC
    rw [if_pos (show (a.1, a.2.1, a.2.2.1, a.2.2.2.1 + b.2.2.2.1, a.2.2.2.2).1 = 1 from h1), if_pos h1, if_pos hb1]
    rcases hb with ⟨k1, k2, k3, k4, k5, k6, k7⟩ | ⟨k1, k2, k3, k4, k5, k6⟩
    · show (old.drop a.2.2.1.toNat).take (a.2.2.2.1 + b.2.2.2.1).toNat = _
      rw [e3, show (a.2.2.1 + a.2.2.2.1).toNat = a.2.2.1.toNat + a.2.2.2.1.toNat by omega, show (a.2.2.2.1 + b.2.2.2.1).toNat = a.2.2.2.1.toNat + b.2.2.2.1.toNat by omega, ← List.drop_drop, List.take_add]
    · omega
  · have ha1 : ¬ a.1 = 1 := by omega
    have hb2 : ¬ b.1 = 1 := by omega
    have hj : joinM a b = (a.1, a.2.1, a.2.2.1, a.2.2.2.1, a.2.2.2.2 ++ b.2.2.2.2) := by unfold joinM; rw [if_neg ha1]
    rw [hj]
    unfold contC
    rw [if_neg (show ¬ (a.1, a.2.1, a.2.2.1, a.2.2.2.1, a.2.2.2.2 ++ b.2.2.2.2).1 = 1 from ha1), if_neg ha1, if_neg hb2]
theorem mergeF_cont {old : List Int} (c : Core8) : ∀ cs : List Core8, (∀ d ∈ c :: cs, GoodB d) → (mergeF c cs).flatMap (contC old) = (c :: cs).flatMap (contC old) := by
  intro cs
  induction cs generalizing c with
  | nil => intro _; rfl
  | cons e cs ih =>
    intro hg
    unfold mergeF
    split
    · rename_i hm
      rw [ih (joinM c e) (fun x hx => by
        rcases List.mem_cons.1 hx with rfl | hx
        · exact ((hg c List.mem_cons_self).join (hg e (by simp)) hm).1
        · exact hg x (by simp [hx]))]
      rw [List.flatMap_cons, List.flatMap_cons, List.flatMap_cons, join_cont (hg c List.mem_cons_self) (hg e (by simp)) hm, List.append_assoc]
    · rw [List.flatMap_cons, List.flatMap_cons, ih e (fun x hx => hg x (List.mem_cons_of_mem _ hx))]

/-- An old file that tells where each byte comes from. -/
noncomputable def origF (o : Nat) : List Int := (List.range o).map fun (i : Nat) => (1000 : Int) + (i : Int)
theorem origF_length (o : Nat) : (origF o).length = o := by simp [origF]
theorem origF_at {o i : Nat} (h : i < o) : (origF o)[i]? = some ((1000 : Int) + (i : Int)) := by
  unfold origF
  rw [List.getElem?_map, List.getElem?_range h]
  rfl

/-- A good command of a delta with bytes. -/
def GoodO (o : Nat) (c : Core8) : Prop := GoodB c ∧ (c.1 = 1 → c.2.2.1 + c.2.2.2.1 ≤ o) ∧ ∀ x ∈ c.2.2.2.2, 0 ≤ x ∧ x < 256
theorem GoodO.cont_len {o : Nat} {c : Core8} (h : GoodO o c) : ((contC (origF o) c).length : Int) = lenC c := by
  obtain ⟨h1, h2, h3⟩ := h
  unfold contC lenC wlen
  rcases h1 with ⟨k1, k2, k3, k4, k5, k6, k7⟩ | ⟨k1, k2, k3, k4, k5, k6⟩
  · have := h2 k1
    rw [if_pos k1, if_pos k1, List.length_take, List.length_drop, origF_length]; omega
  · rw [if_neg (by omega), if_neg (by omega)]
theorem GoodO.at {o : Nat} {c : Core8} (h : GoodO o c) {i : Nat} (hi : (i : Int) < lenC c) : ∃ x, (contC (origF o) c)[i]? = some x ∧ ((c.1 = 1 ∧ x = 1000 + (c.2.2.1 + i)) ∨ (c.1 = 2 ∧ c.2.2.2.2[i]? = some x ∧ 0 ≤ x ∧ x < 256)) := by
  obtain ⟨h1, h2, h3⟩ := h
  unfold lenC wlen at hi
  unfold contC
  rcases h1 with ⟨k1, k2, k3, k4, k5, k6, k7⟩ | ⟨k1, k2, k3, k4, k5, k6⟩
  · have := h2 k1
    rw [if_pos k1] at hi ⊢
    refine ⟨1000 + (c.2.2.1 + i), ?_, .inl ⟨k1, rfl⟩⟩
    rw [List.getElem?_take, if_pos (by omega), List.getElem?_drop, origF_at (by omega), show (((c.2.2.1.toNat + i : Nat)) : Int) = c.2.2.1 + i by omega]
  · rw [if_neg (by omega)] at hi ⊢
    have hl : i < c.2.2.2.2.length := by omega
    have hm := h3 _ (List.getElem_mem hl)
    exact ⟨c.2.2.2.2[i], List.getElem?_eq_getElem hl, .inr ⟨k1, List.getElem?_eq_getElem hl, hm⟩⟩

theorem flat_at {α β : Type} {f : α → List β} {a : α} {L : List α} {i : Nat} (h : (f a).length ≤ i) : ((a :: L).flatMap f)[i]? = (L.flatMap f)[i - (f a).length]? := by
  rw [List.flatMap_cons, List.getElem?_append_right h]
theorem flat_in {α β : Type} {f : α → List β} {a : α} {L : List α} {i : Nat} (h : i < (f a).length) : ((a :: L).flatMap f)[i]? = (f a)[i]? := by
  rw [List.flatMap_cons, List.getElem?_append_left h]

/-- The same origins: a command is not shorter than the other one at its place. -/
theorem canon_len {o : Nat} {n lo : Int} {a b : Core8} {A B : List Core8} (ga : ∀ c ∈ a :: A, GoodO o c) (gb : ∀ c ∈ b :: B, GoodO o c) (ca : Chain n lo ((a :: A).map tgtC)) (cb : Chain n lo ((b :: B).map tgtC)) (na : NoM (a :: A))
    (h : (a :: A).flatMap (contC (origF o)) = (b :: B).flatMap (contC (origF o))) : ¬ lenC a < lenC b := by
  intro hlt
  have g1 := ga a List.mem_cons_self
  have g2 := gb b List.mem_cons_self
  have l1 := g1.cont_len
  have l2 := g2.cont_len
  have p1 := g1.1.len
  have p2 := g2.1.len
  obtain ⟨c1, c2⟩ := ca
  obtain ⟨d1, d2⟩ := cb
  cases A with
  | nil =>
    have hn : lo + lenC a = n := c2
    have hle := chain_le (B.map tgtC) (lo + lenC b) (fun p hp => by
      obtain ⟨c, hc, rfl⟩ := List.mem_map.1 hp
      exact (gb c (List.mem_cons_of_mem _ hc)).1.len.1) d2
    omega
  | cons a' A' =>
    have g3 := ga a' (by simp)
    have l3 := g3.cont_len
    have p3 := g3.1.len
    obtain ⟨c3, c4⟩ := c2
    have c3 : a'.2.1 = lo + lenC a := c3
    have c1 : a.2.1 = lo := c1
    have d1 : b.2.1 = lo := d1
    -- the first bytes
    obtain ⟨x0, hx0, ex0⟩ := g1.at (i := 0) (by omega)
    obtain ⟨y0, hy0, ey0⟩ := g2.at (i := 0) (by omega)
    have e0 : x0 = y0 := by
      have : ((a :: a' :: A').flatMap (contC (origF o)))[0]? = ((b :: B).flatMap (contC (origF o)))[0]? := by rw [h]
      rw [flat_in (by omega), flat_in (by omega), hx0, hy0] at this
      exact Option.some.inj this
    -- the byte behind the first command
    obtain ⟨m, hm⟩ : ∃ m : Nat, (m : Int) = lenC a := ⟨(lenC a).toNat, by omega⟩
    obtain ⟨x1, hx1, ex1⟩ := g3.at (i := 0) (by omega)
    obtain ⟨y1, hy1, ey1⟩ := g2.at (i := m) (by omega)
    have e1 : x1 = y1 := by
      have : ((a :: a' :: A').flatMap (contC (origF o)))[m]? = ((b :: B).flatMap (contC (origF o)))[m]? := by rw [h]
      rw [flat_at (by omega), flat_in (by omega), show m - (contC (origF o) a).length = 0 by omega, flat_in (by omega), hx1, hy1] at this
      exact Option.some.inj this
    refine na.1 a' A' rfl ⟨?_, ?_, fun hk => ?_⟩
    · rcases ex0 with ⟨k, e⟩ | ⟨k, -, e, e'⟩ <;> rcases ey0 with ⟨k2, e2⟩ | ⟨k2, -, e2, e2'⟩ <;> rcases ex1 with ⟨k3, e3⟩ | ⟨k3, -, e3, e3'⟩ <;> rcases ey1 with ⟨k4, e4⟩ | ⟨k4, -, e4, e4'⟩ <;>
        (have q1 := g1.1; have q2 := g2.1; have q3 := g3.1; unfold GoodB at q1 q2 q3; omega)
    · rw [c3, c1]
    · rcases ex0 with ⟨k, e⟩ | ⟨k, -, e, e'⟩ <;> rcases ey0 with ⟨k2, e2⟩ | ⟨k2, -, e2, e2'⟩ <;> rcases ex1 with ⟨k3, e3⟩ | ⟨k3, -, e3, e3'⟩ <;> rcases ey1 with ⟨k4, e4⟩ | ⟨k4, -, e4, e4'⟩ <;>
        (have q1 := g1.1; have q2 := g2.1; have q3 := g3.1; unfold GoodB at q1 q2 q3; have hla : lenC a = a.2.2.2.1 := by { unfold lenC wlen; rw [if_pos hk] }; omega)
/-- A canonical form is told by its origins. -/
theorem canon_eq {o : Nat} {n : Int} : ∀ (A B : List Core8) (lo : Int), (∀ c ∈ A, GoodO o c) → (∀ c ∈ B, GoodO o c) → Chain n lo (A.map tgtC) → Chain n lo (B.map tgtC) → NoM A → NoM B →
    A.flatMap (contC (origF o)) = B.flatMap (contC (origF o)) → A = B := by
  intro A
  induction A with
  | nil =>
    intro B lo ga gb ca cb na nb h
    cases B with
    | nil => rfl
    | cons b B =>
      have := (gb b List.mem_cons_self).cont_len
      have := (gb b List.mem_cons_self).1.len
      have e := congrArg List.length h
      rw [List.flatMap_cons, List.length_append] at e
      have e0 : (([] : List Core8).flatMap (contC (origF o))).length = 0 := rfl
      omega
  | cons a A ih =>
    intro B lo ga gb ca cb na nb h
    cases B with
    | nil =>
      have := (ga a List.mem_cons_self).cont_len
      have := (ga a List.mem_cons_self).1.len
      have e := congrArg List.length h
      rw [List.flatMap_cons, List.length_append] at e
      have e0 : (([] : List Core8).flatMap (contC (origF o))).length = 0 := rfl
      omega
    | cons b B =>
      have h1 := canon_len ga gb ca cb na h
      have h2 := canon_len gb ga cb ca nb h.symm
      have hl : lenC a = lenC b := by omega
      have g1 := ga a List.mem_cons_self
      have g2 := gb b List.mem_cons_self
      have l1 := g1.cont_len
      have l2 := g2.cont_len
      have p1 := g1.1.len
      obtain ⟨c1, c2⟩ := ca
      obtain ⟨d1, d2⟩ := cb
      have c1 : a.2.1 = lo := c1
      have d1 : b.2.1 = lo := d1
      have hsp := h
      rw [List.flatMap_cons, List.flatMap_cons] at hsp
      obtain ⟨hc, ht⟩ := List.append_inj hsp (by omega)
      have hab : a = b := by
        obtain ⟨x0, hx0, ex0⟩ := g1.at (i := 0) (by omega)
        obtain ⟨y0, hy0, ey0⟩ := g2.at (i := 0) (by omega)
        rw [hc, hy0] at hx0
        obtain rfl := Option.some.inj hx0
        obtain ⟨ak, at', af, an, al⟩ := a
        obtain ⟨bk, bt, bf, bn, bl⟩ := b
        have q1 := g1.1
        have q2 := g2.1
        unfold GoodB at q1 q2
        unfold lenC wlen at hl
        simp only at *
        rcases q1 with ⟨r1, r2, r3, r4, r5, r6, r7⟩ | ⟨r1, r2, r3, r4, r5, r6⟩ <;> rcases q2 with ⟨s1, s2, s3, s4, s5, s6, s7⟩ | ⟨s1, s2, s3, s4, s5, s6⟩
        · subst r5 s5
          rw [if_pos r1, if_pos s1] at hl
          have e1 : ak = bk := by omega
          have e2 : at' = bt := by omega
          have e3 : af = bf := by omega
          subst e1 e2 e3 hl
          rfl
        · omega
        · omega
        · unfold contC at hc
          simp only at hc
          rw [if_neg (by omega), if_neg (by omega)] at hc
          have e1 : ak = bk := by omega
          have e2 : at' = bt := by omega
          have e3 : af = bf := by omega
          have e4 : an = bn := by omega
          subst e1 e2 e3 e4 hc
          rfl
      subst hab
      rw [ih B _ (fun c hc => ga c (List.mem_cons_of_mem _ hc)) (fun c hc => gb c (List.mem_cons_of_mem _ hc)) c2 d2 na.2 nb.2 ht]
end Go.Proofs.Ytgmjppjgbalapaa

/- origin and adjoin of package tidy. -/
namespace Go.Proofs.Ytgmjppjgbalapaa
open Go.RowKit Go.Proofs.Ytgmjppjgbalapaa.Plain01
set_option linter.unusedVariables false
set_option linter.unusedSimpArgs false

/-- The cells of an origin. -/
abbrev orgA (b : Bool) (f v : Int) : Array Value := #[.bool b, .int .i64 f, .int .u8 v]
abbrev orgO (b : Bool) (f v : Int) : Obj := .cells (orgA b f v) 47 (0, 0)
theorem org_size (b : Bool) (f v : Int) : (Try.prog.info? 47).map (·.size) = some (orgA b f v).size := by
  show _ = some 3
  kernel_rfl
theorem org_one (b : Bool) (f v : Int) : (orgA b f v).all (·.oneCell') = true := by simp [Value.oneCell']

set_option maxRecDepth 100000 in
set_option maxHeartbeats 4000000 in
theorem origin_copy (t f n : Int) (a : Option Addr) (L cap : Nat) (i : Int) (w : World) (hf : 0 ≤ f ∧ f ≤ 4611686018427387903) (hi : 0 ≤ i ∧ i ≤ 4611686018427387903) :
    Calls Try.prog 50 #[cmdV 1 t f n (.slice a L cap), .int .i64 i] w (Gives (.agg (orgA true (f + i) 0)) w) := by
  obtain ⟨S, hS⟩ := start2 w (cmdO 1 t f n (.slice a L cap)) (orgO false 0 0)
  have hc := msource_copy t f n a L cap S.w
  obtain ⟨hf1, hf2⟩ := hf
  obtain ⟨hi1, hi2⟩ := hi
  obtain ⟨c0, c1, c2, c3, c4⟩ := cmd_cells (heap_old (heap_new w (cmdO 1 t f n (.slice a L cap)) rfl) (orgO false 0 0))
  have HS := Lib.hid hS
  have hsz := org_size true (f + i) 0
  have hone := org_one true (f + i) 0
  clear hS
  go_enter Try.func50, Try.ntmps50
  go_wp2_with fail
  rw [HS.out]
  clear c0 c1 c2 c3 c4
  refine (HeldW.call hc).mono ?_
  rintro e _ ⟨rfl, s2, rfl⟩
  obtain ⟨B, s3, hB, hB0, hlt, hS3⟩ := s2.more1 (extO (f, n))
  have HS3 := Lib.hid (And.intro hS3 hB)
  have hst : (s2.w.alloc (extO (f, n))).heap[w.heap.size + 1]? = some (orgO false 0 0) := by rw [hS3]; exact s3.blocks (w.heap.size + 1, orgO false 0 0) (by simp)
  have HBW := Lib.hid (show Below w.heap.size w ((s2.w.alloc (extO (f, n))).setRow (w.heap.size + 1) (orgA true (f + i) 0)) from below_setRow (by rw [hS3]; exact s3.below) (by omega) _)
  have HHP := Lib.hid (show ((s2.w.alloc (extO (f, n))).setRow (w.heap.size + 1) (orgA true (f + i) 0)).heap[w.heap.size + 1]? = some (orgO true (f + i) 0) from setRow_heap _ _ _ _ _ _ hst)
  clear hc hB hS3 hlt
  go_wp2_with (refine wpList_store_rowTo rfl 47 (.tmp 4) (.tmp 17) rfl rfl (w.heap.size + 1) (orgA true (f + i) 0) rfl rfl 47 (orgA false 0 0) hst hsz rfl hone ?_)
  refine bodyPost_ret (v := .agg (orgA true (f + i) 0)) ?_ rfl ⟨rfl, HBW.out⟩
  exact results_cell_row Try.results50 _ _ (w.heap.size + 1) 47 _ (0, 0) _ rfl HHP.out Try.underlying47 rfl hsz

set_option maxRecDepth 100000 in
set_option maxHeartbeats 4000000 in
theorem origin_lit (t f n : Int) (l : List Int) (a : Option Addr) (cap : Nat) (i : Nat) (x : Int) (w : World) (hb : BytesIn w a l cap) (hi : l[i]? = some x) :
    Calls Try.prog 50 #[cmdV 2 t f n (.slice a l.length cap), .int .i64 (i : Int)] w (Gives (.agg (orgA false 0 x)) w) := by
  obtain ⟨S, hS⟩ := start2 w (cmdO 2 t f n (.slice a l.length cap)) (orgO false 0 0)
  have hc := msource_lit t f n a l.length cap S.w
  have hil := (List.getElem?_eq_some_iff.1 hi).1
  obtain ⟨b, oo, rfl, hcell⟩ := hb.cells (by omega)
  have hci := hcell i hil
  rw [hi, Option.getD_some] at hci
  obtain ⟨c0, c1, c2, c3, c4⟩ := cmd_cells (heap_old (heap_new w (cmdO 2 t f n (.slice (some ⟨b, oo, none⟩) l.length cap)) rfl) (orgO false 0 0))
  have HS := Lib.hid hS
  have HCI := Lib.hid hci
  have hsz := org_size false 0 x
  have hone := org_one false 0 x
  have hcl := hb.len
  have hcb := hb.capb
  generalize l.length = L at *
  clear hS hb hi hcell hci
  go_enter Try.func50, Try.ntmps50
  go_wp2_with fail
  rw [HS.out]
  clear c0 c1 c2 c3 c4
  refine (HeldW.call hc).mono ?_
  rintro e _ ⟨rfl, s2, rfl⟩
  obtain ⟨B, s3, hB, hB0, hlt, hS3⟩ := s2.more1 (extO (0, 0))
  have hst : (s2.w.alloc (extO (0, 0))).heap[w.heap.size + 1]? = some (orgO false 0 0) := by rw [hS3]; exact s3.blocks (w.heap.size + 1, orgO false 0 0) (by simp)
  have c4 : (s2.w.alloc (extO (0, 0))).cell? ⟨w.heap.size, 4, none⟩ = some (.slice (some ⟨b, oo, none⟩) L cap) := by
    rw [hS3]
    exact (cmd_cells (s3.blocks (w.heap.size, cmdO 2 t f n (.slice (some ⟨b, oo, none⟩) L cap)) (by simp))).2.2.2.2
  have d5 : (s2.w.alloc (extO (0, 0))).cell? ⟨b, oo + i, none⟩ = some (.int .u8 x) := by
    rw [hS3]
    exact (s3.below.cell (World.block_lt_of_cell? _ _ HCI.out)).trans HCI.out
  have HBW := Lib.hid (show Below w.heap.size w ((s2.w.alloc (extO (0, 0))).setRow (w.heap.size + 1) (orgA false 0 x)) from below_setRow (by rw [hS3]; exact s3.below) (by omega) _)
  have HHP := Lib.hid (show ((s2.w.alloc (extO (0, 0))).setRow (w.heap.size + 1) (orgA false 0 x)).heap[w.heap.size + 1]? = some (orgO false 0 x) from setRow_heap _ _ _ _ _ _ hst)
  clear hc hB hS3 hlt
  go_wp2_with (refine wpList_store_rowTo rfl 47 (.tmp 4) (.tmp 23) rfl rfl (w.heap.size + 1) (orgA false 0 x) rfl rfl 47 (orgA false 0 0) hst hsz rfl hone ?_)
  refine bodyPost_ret (v := .agg (orgA false 0 x)) ?_ rfl ⟨rfl, HBW.out⟩
  exact results_cell_row Try.results50 _ _ (w.heap.size + 1) 47 _ (0, 0) _ rfl HHP.out Try.underlying47 rfl hsz

set_option maxRecDepth 100000 in
set_option maxHeartbeats 4000000 in
theorem adjoin_any (p q : Int × Int) (w : World) (hp : okE p = true) :
    Calls Try.prog 53 #[extV p, extV q] w (Gives (.bool (p.1 + p.2 == q.1)) w) := by
  obtain ⟨S, hS⟩ := start2 w (extO p) (extO q)
  have hE := end_gives p hp
  have HS := Lib.hid hS
  clear hS hp
  go_enter Try.func53, Try.ntmps53
  go_wp2_with fail
  rw [HS.out]
  obtain ⟨a0, a1⟩ := held_extA S w.heap.size p (by simp)
  obtain ⟨b0, b1⟩ := held_extA S (w.heap.size + 1) q (by simp)
  refine wp_region_class w _ (by kernel_rfl) (by kernel_rfl) S.below S.blocks (fun hne => ?_)
  repeat (go_big_quiet_step ((go_at_call 63; exact HeldW.call (hE _))))
  refine wpQuiet_nil ?_
  rintro _ ⟨s3, rfl⟩
  clear hne a0 a1 b0 b1
  go_wp2
  go_ret
  exact ⟨rfl, s3.below⟩
end Go.Proofs.Ytgmjppjgbalapaa
