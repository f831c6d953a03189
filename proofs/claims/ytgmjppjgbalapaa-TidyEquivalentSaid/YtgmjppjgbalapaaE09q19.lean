import Derived.Test.YtgmjppjgbalapaaE09q18
import Derived.BigQuiet
import Derived.Test.YtgmjppjgbalapaaE09q13
import Derived.Laws.StructEq
import Derived.Test.YtgmjppjgbalapaaE09q7
/- mergeable of package tidy. -/
namespace Go.Proofs.Ytgmjppjgbalapaa
open Go.RowKit Go.Proofs.Ytgmjppjgbalapaa.Plain01
set_option linter.unusedVariables false
set_option linter.unusedSimpArgs false

theorem good_ok {c : Cmd} (h : GoodB c.core) : okE c.tgt = true ∧ (c.k = 1 ∨ c.k = 2) ∧ (c.k = 1 → okE (c.f, c.n) = true) := by
  have hl := h.len
  unfold GoodB Cmd.core at h
  simp only at h
  have e1 : lenC c.core = c.w := rfl
  have e2 : c.core.2.1 = c.t := rfl
  rw [e1, e2] at hl
  refine ⟨okE_iff.2 ⟨?_, ?_, ?_⟩, ?_, fun hk => okE_iff.2 ⟨?_, ?_, ?_⟩⟩
  · unfold Cmd.tgt; simp only; omega
  · unfold Cmd.tgt; simp only; omega
  · unfold Cmd.tgt; simp only; omega
  · omega
  · simp only; omega
  · simp only; omega
  · simp only; omega

set_option maxRecDepth 100000 in
set_option maxHeartbeats 4000000 in
theorem able_any (a b : Cmd) (ha : GoodB a.core) (hb : GoodB b.core) (w : World) :
    Calls Try.prog 31 #[cmdW a, cmdW b] w (Gives (.bool (decide (canM a.core b.core))) w) := by
  obtain ⟨oa, ka, sa⟩ := good_ok ha
  obtain ⟨ob, kb, sb⟩ := good_ok hb
  obtain ⟨S, hS⟩ := start2 w (cmdO a.k a.t a.f a.n (.slice a.a a.l.length a.cap)) (cmdO b.k b.t b.f b.n (.slice b.a b.l.length b.cap))
  have hTa := fun W => mtarget_any a.k a.t a.f a.n ka a.a a.l.length a.cap W
  have hTb := fun W => mtarget_any b.k b.t b.f b.n kb b.a b.l.length b.cap W
  have hA := fun W => adjoin_any a.tgt b.tgt W oa
  have hAs := fun (h : a.k = 1) W => adjoin_any (a.f, a.n) (b.f, b.n) W (sa h)
  have e1 : extV (a.t, wlen a.k a.n a.l.length) = extV a.tgt := rfl
  have e2 : extV (b.t, wlen b.k b.n b.l.length) = extV b.tgt := rfl
  rw [e1] at hTa
  rw [e2] at hTb
  have HS := Lib.hid hS
  obtain ⟨POST, hP⟩ : ∃ P, P = Gives (.bool (decide (canM a.core b.core))) w := ⟨_, rfl⟩
  have HQ : Hid (∀ r : Bool, (r = true ↔ canM a.core b.core) → ∀ W, Below w.heap.size w W → POST (.returned (.bool r)) W) := Lib.hid fun r hr W hW => by
    rw [hP, show decide (canM a.core b.core) = r by rw [Bool.eq_iff_iff]; simp [hr]]
    exact ⟨rfl, hW⟩
  rw [← hP]
  have hcan : canM a.core b.core ↔ a.k = b.k ∧ b.t = a.t + a.w ∧ (a.k = 1 → b.f = a.f + a.n) := Iff.rfl
  rw [hcan] at HQ
  clear hS hP hcan e1 e2 oa ob sa sb ha hb
  by_cases hk : a.k = b.k
  · have d13 : (a.k != b.k) = false := by simp [hk]
    by_cases ht : b.t = a.t + a.w
    · have d19 : (a.tgt.1 + a.tgt.2 == b.tgt.1) = true := by unfold Cmd.tgt; simp [ht]
      have hA2 : ∀ W, Calls Try.prog 53 #[extV a.tgt, extV b.tgt] W (Gives (.bool true) W) := fun W => by have := hA W; rwa [d19] at this
      have HK := Lib.hid (And.intro hk ht)
      have HAS := Lib.hid hAs
      clear hA ht hk d19 hAs
      go_enter Try.func31, Try.ntmps31
      go_wp2_with fail
      rw [HS.out]
      obtain ⟨a0, a1, a2, a3, a4⟩ := held_cmdA S w.heap.size a.k a.t a.f a.n (.slice a.a a.l.length a.cap) (by simp)
      obtain ⟨b0, b1, b2, b3, b4⟩ := held_cmdA S (w.heap.size + 1) b.k b.t b.f b.n (.slice b.a b.l.length b.cap) (by simp)
      refine wp_region_class w _ (by kernel_rfl) (by kernel_rfl) S.below S.blocks (fun hne => ?_)
      repeat (go_big_quiet_step (first
        | (go_at_call_of 54 a; exact HeldW.call (hTa _))
        | (go_at_call_of 54 b; exact HeldW.call (hTb _))
        | (go_at_call 53; exact HeldW.call (hA2 _))))
      refine wpQuiet_nil ?_
      rintro _ ⟨s3, rfl⟩
      clear hne a0 a1 a2 a3 a4 b0 b1 b2 b3 b4
      have ca := held_cmd s3 w.heap.size a.k a.t a.f a.n (.slice a.a a.l.length a.cap) (by simp)
      obtain ⟨a0, a1, a2, a3, a4, -⟩ := ca
      rcases ka with hka | hka
      · have hkb : b.k = 1 := by rw [← HK.out.1]; exact hka
        have hSa : ∀ W, Calls Try.prog 55 #[cmdW a] W (Gives (.tuple #[extV (a.f, a.n), .bool true]) W) := fun W => by
          show Calls Try.prog 55 #[cmdV a.k a.t a.f a.n (.slice a.a a.l.length a.cap)] W _
          rw [hka]; exact msource_copy _ _ _ _ _ _ W
        have hSb : ∀ W, Calls Try.prog 55 #[cmdW b] W (Gives (.tuple #[extV (b.f, b.n), .bool true]) W) := fun W => by
          show Calls Try.prog 55 #[cmdV b.k b.t b.f b.n (.slice b.a b.l.length b.cap)] W _
          rw [hkb]; exact msource_copy _ _ _ _ _ _ W
        have hA3 := HAS.out hka
        have HKA := Lib.hid hka
        clear hka hkb
        go_wp2_with fail
        refine (HeldW.call (hSa _)).mono ?_
        rintro e _ ⟨rfl, s4, rfl⟩
        clear a0 a1 a2 a3 a4 s3 hSa
        obtain ⟨B1, s5, hB1, hB10, hlt1, hS5⟩ := s4.more1 (extO (a.f, a.n))
        obtain ⟨b0, b1, b2, b3, b4, -⟩ := held_cmd s5 (w.heap.size + 1) b.k b.t b.f b.n (.slice b.a b.l.length b.cap) (by simp)
        have HS5 := Lib.hid (And.intro hS5 hB1)
        rw [← hS5] at b0 b1 b2 b3 b4
        clear hS5 hB1 hlt1
        go_wp2_with fail
        rw [HS5.out.1, ← HS5.out.2]
        refine (HeldW.call (hSb _)).mono ?_
        rintro e _ ⟨rfl, s6, rfl⟩
        clear b0 b1 b2 b3 b4 s5 hSb HS5 s4
        obtain ⟨B2, s7, hB2, hB20, hlt2, hS7⟩ := s6.more1 (extO (b.f, b.n))
        obtain ⟨p0, p1, -⟩ := held_ext2 s7 B1 (a.f, a.n) (by simp)
        obtain ⟨q0, q1, -⟩ := held_ext2 s7 B2 (b.f, b.n) (by simp)
        have HS7 := Lib.hid (And.intro hS7 hB2)
        rw [← hS7, hB2] at q0 q1
        rw [← hS7] at p0 p1
        clear hS7 hB2 hlt2
        go_wp2_with fail
        rw [HS7.out.1]
        refine (HeldW.call (hA3 _)).mono ?_
        rintro e _ ⟨rfl, s8, rfl⟩
        have HR := Lib.hid (HQ.out (a.f + a.n == b.f) (by
          have := HK.out
          have := HKA.out
          simp only [beq_iff_eq]
          constructor
          · intro h; exact ⟨HK.out.1, HK.out.2, fun _ => h.symm⟩
          · intro h; exact (h.2.2 HKA.out).symm) s8.w s8.below)
        clear p0 p1 q0 q1 s7 hA3 HS7
        go_wp2
        exact HR.out
      · have hkb : b.k = 2 := by rw [← HK.out.1]; exact hka
        have hSa : ∀ W, Calls Try.prog 55 #[cmdW a] W (Gives (.tuple #[extV (0, 0), .bool false]) W) := fun W => by
          show Calls Try.prog 55 #[cmdV a.k a.t a.f a.n (.slice a.a a.l.length a.cap)] W _
          rw [hka]; exact msource_lit _ _ _ _ _ _ W
        have hSb : ∀ W, Calls Try.prog 55 #[cmdW b] W (Gives (.tuple #[extV (0, 0), .bool false]) W) := fun W => by
          show Calls Try.prog 55 #[cmdV b.k b.t b.f b.n (.slice b.a b.l.length b.cap)] W _
          rw [hkb]; exact msource_lit _ _ _ _ _ _ W
        have HKA := Lib.hid hka
        clear hka hkb
        go_wp2_with fail
        refine (HeldW.call (hSa _)).mono ?_
        rintro e _ ⟨rfl, s4, rfl⟩
        clear a0 a1 a2 a3 a4 s3 hSa
        obtain ⟨B1, s5, hB1, hB10, hlt1, hS5⟩ := s4.more1 (extO (0, 0))
        obtain ⟨b0, b1, b2, b3, b4, -⟩ := held_cmd s5 (w.heap.size + 1) b.k b.t b.f b.n (.slice b.a b.l.length b.cap) (by simp)
        have HS5 := Lib.hid (And.intro hS5 hB1)
        rw [← hS5] at b0 b1 b2 b3 b4
        clear hS5 hB1 hlt1
        go_wp2_with fail
        rw [HS5.out.1, ← HS5.out.2]
        refine (HeldW.call (hSb _)).mono ?_
        rintro e _ ⟨rfl, s6, rfl⟩
        clear b0 b1 b2 b3 b4 s5 hSb HS5 s4
        obtain ⟨s7, hS7⟩ : ∃ s7 : HeldW w [], s6.w.alloc (extO (0, 0)) = s7.w := ⟨⟨_, s6.below.alloc s6.below.size _, by simp⟩, rfl⟩
        have HR := Lib.hid (HQ.out true (by
          constructor
          · intro _; exact ⟨HK.out.1, HK.out.2, fun h => by have := HKA.out; omega⟩
          · intro _; rfl) (s6.w.alloc (extO (0, 0))) (by rw [hS7]; exact s7.below))
        clear hS7
        go_wp2
        exact HR.out
    · have d19 : (a.tgt.1 + a.tgt.2 == b.tgt.1) = false := by
        unfold Cmd.tgt
        simp only [beq_eq_false_iff_ne, ne_eq]
        omega
      have hA2 : ∀ W, Calls Try.prog 53 #[extV a.tgt, extV b.tgt] W (Gives (.bool false) W) := fun W => by have := hA W; rwa [d19] at this
      have HK := Lib.hid (And.intro hk ht)
      clear hA ht hk d19 hAs
      go_enter Try.func31, Try.ntmps31
      go_wp2_with fail
      rw [HS.out]
      obtain ⟨a0, a1, a2, a3, a4⟩ := held_cmdA S w.heap.size a.k a.t a.f a.n (.slice a.a a.l.length a.cap) (by simp)
      obtain ⟨b0, b1, b2, b3, b4⟩ := held_cmdA S (w.heap.size + 1) b.k b.t b.f b.n (.slice b.a b.l.length b.cap) (by simp)
      refine wp_region_class w _ (by kernel_rfl) (by kernel_rfl) S.below S.blocks (fun hne => ?_)
      repeat (go_big_quiet_step (first
        | (go_at_call_of 54 a; exact HeldW.call (hTa _))
        | (go_at_call_of 54 b; exact HeldW.call (hTb _))
        | (go_at_call 53; exact HeldW.call (hA2 _))))
      refine wpQuiet_nil ?_
      rintro _ ⟨s3, rfl⟩
      clear hne a0 a1 a2 a3 a4 b0 b1 b2 b3 b4
      have HR := Lib.hid (HQ.out false (by
        constructor
        · intro h; cases h
        · intro h; exact absurd h.2.1 HK.out.2) s3.w s3.below)
      go_wp2
      exact HR.out
  · have d13 : (a.k != b.k) = true := by simp [hk]
    have HK := Lib.hid hk
    clear hA hAs hk hTa hTb
    go_enter Try.func31, Try.ntmps31
    go_wp2_with fail
    rw [HS.out]
    obtain ⟨a0, a1, a2, a3, a4⟩ := held_cmdA S w.heap.size a.k a.t a.f a.n (.slice a.a a.l.length a.cap) (by simp)
    obtain ⟨b0, b1, b2, b3, b4⟩ := held_cmdA S (w.heap.size + 1) b.k b.t b.f b.n (.slice b.a b.l.length b.cap) (by simp)
    refine wp_region_class w _ (by kernel_rfl) (by kernel_rfl) S.below S.blocks (fun hne => ?_)
    repeat (go_big_quiet_step (fail))
    refine wpQuiet_nil ?_
    rintro _ ⟨s3, rfl⟩
    clear hne a0 a1 a2 a3 a4 b0 b1 b2 b3 b4
    have HR := Lib.hid (HQ.out false (by
      constructor
      · intro h; cases h
      · intro h; exact absurd h.1 HK.out) s3.w s3.below)
    go_wp2
    exact HR.out
end Go.Proofs.Ytgmjppjgbalapaa

/- sameOrigins of package tidy. -/
namespace Go.Proofs.Ytgmjppjgbalapaa
open Go.RowKit Go.Proofs.Ytgmjppjgbalapaa.Plain01
set_option linter.unusedVariables false
set_option linter.unusedSimpArgs false

/-- The origin of the byte that a command writes i bytes after its first one. -/
def orgOf (c : Cmd) (i : Int) : Array Value := if c.k = 1 then orgA true (c.f + i) 0 else orgA false 0 (c.l[i.toNat]?.getD 0)
theorem origin_any (c : Cmd) (i : Nat) (w : World) (hc : CmdOK w c) (hg : GoodB c.core) (hi : (i : Int) < c.w) :
    Calls Try.prog 50 #[cmdW c, .int .i64 (i : Int)] w (Gives (.agg (orgOf c i)) w) := by
  have hk := (good_ok hg).2.1
  unfold GoodB Cmd.core at hg
  simp only at hg
  unfold Cmd.w wlen at hi
  rcases hk with hk | hk
  · rw [if_pos hk] at hi
    have e1 : orgOf c i = orgA true (c.f + i) 0 := by unfold orgOf; rw [if_pos hk]
    rw [e1]
    show Calls Try.prog 50 #[cmdV c.k c.t c.f c.n (.slice c.a c.l.length c.cap), .int .i64 (i : Int)] w _
    rw [hk]
    exact origin_copy c.t c.f c.n c.a c.l.length c.cap i w (by omega) (by omega)
  · rw [if_neg (by omega)] at hi
    have hil : i < c.l.length := by omega
    have e1 : orgOf c i = orgA false 0 c.l[i] := by
      unfold orgOf
      rw [if_neg (by omega), Int.toNat_natCast, List.getElem?_eq_getElem hil]
      rfl
    rw [e1]
    show Calls Try.prog 50 #[cmdV c.k c.t c.f c.n (.slice c.a c.l.length c.cap), .int .i64 (i : Int)] w _
    rw [hk]
    exact origin_lit c.t c.f c.n c.l c.a c.cap i _ w hc.b (List.getElem?_eq_getElem hil)
def orgB (c : Cmd) : Bool := decide (c.k = 1)
def orgF (c : Cmd) (i : Int) : Int := if c.k = 1 then c.f + i else 0
def orgX (c : Cmd) (i : Int) : Int := if c.k = 1 then 0 else c.l[i.toNat]?.getD 0
theorem orgOf_eq (c : Cmd) (i : Int) : orgOf c i = orgA (orgB c) (orgF c i) (orgX c i) := by
  unfold orgOf orgB orgF orgX
  by_cases h : c.k = 1
  · simp [h]
  · simp [h]
/-- Two valid commands with the same target and the same origins are the same. -/
theorem same_org {a b : Cmd} (ha : GoodB a.core) (hb : GoodB b.core) (ht : a.t = b.t) (hw : a.w = b.w) (ho : ∀ i : Nat, (i : Int) < (if a.k = 1 then min a.w 1 else a.w) → orgOf a i = orgOf b i) : a.core = b.core := by
  have ka := (good_ok ha).2.1
  have kb := (good_ok hb).2.1
  have h0 := ho 0 (by
    have := ha.len.1
    have e : lenC a.core = a.w := rfl
    split <;> omega)
  unfold GoodB Cmd.core at ha hb
  simp only at ha hb
  unfold Cmd.core
  unfold Cmd.w wlen at hw
  rcases ka with ka | ka <;> rcases kb with kb | kb
  · unfold orgOf at h0
    rw [if_pos ka, if_pos kb] at h0
    simp at h0
    rw [if_pos ka, if_pos kb] at hw
    have e1 : a.l = [] := by rcases ha with h | h; exact h.2.2.2.2.1; omega
    have e2 : b.l = [] := by rcases hb with h | h; exact h.2.2.2.2.1; omega
    rw [ka, kb, ht, h0, hw, e1, e2]
  · unfold orgOf at h0
    rw [if_pos ka, if_neg (by omega)] at h0
    simp at h0
  · unfold orgOf at h0
    rw [if_neg (by omega), if_pos kb] at h0
    simp at h0
  · rw [if_neg (by omega), if_neg (by omega)] at hw
    have e1 : a.f = b.f ∧ a.n = b.n := by omega
    have e2 : a.l = b.l := by
      apply List.ext_getElem?
      intro i
      by_cases hi : i < a.l.length
      · have h1 := ho i (by rw [if_neg (by omega)]; unfold Cmd.w wlen; rw [if_neg (by omega)]; omega)
        unfold orgOf at h1
        rw [if_neg (by omega), if_neg (by omega), Int.toNat_natCast, List.getElem?_eq_getElem hi, List.getElem?_eq_getElem (show i < b.l.length by omega)] at h1
        simp at h1
        rw [List.getElem?_eq_getElem hi, List.getElem?_eq_getElem (show i < b.l.length by omega), h1]
      · rw [List.getElem?_eq_none (by omega), List.getElem?_eq_none (by omega)]
    rw [ka, kb, ht, e1.1, e1.2, e2]
theorem org_core {a b : Cmd} (h : a.core = b.core) : a.t = b.t ∧ a.w = b.w ∧ ∀ i : Int, orgOf a i = orgOf b i := by
  have e1 : a.k = b.k := congrArg (fun q : Core8 => q.1) h
  have e2 : a.t = b.t := congrArg (fun q : Core8 => q.2.1) h
  have e3 : a.f = b.f := congrArg (fun q : Core8 => q.2.2.1) h
  have e4 : a.n = b.n := congrArg (fun q : Core8 => q.2.2.2.1) h
  have e5 : a.l = b.l := congrArg (fun q : Core8 => q.2.2.2.2) h
  refine ⟨e2, by unfold Cmd.w; rw [e1, e4, e5], fun i => by unfold orgOf; rw [e1, e3, e5]⟩

set_option maxRecDepth 100000 in
set_option maxHeartbeats 4000000 in
theorem same9_any (a b : Cmd) (w : World) (ca : CmdOK w a) (cb : CmdOK w b) (ha : GoodB a.core) (hb : GoodB b.core) :
    Calls Try.prog 41 #[cmdW a, cmdW b] w (Gives (.bool (decide (a.core = b.core))) w) := by
  obtain ⟨oa, ka, -⟩ := good_ok ha
  obtain ⟨ob, kb, -⟩ := good_ok hb
  obtain ⟨S, hS⟩ := start2 w (cmdO a.k a.t a.f a.n (.slice a.a a.l.length a.cap)) (cmdO b.k b.t b.f b.n (.slice b.a b.l.length b.cap))
  have hTa := fun W => mtarget_any a.k a.t a.f a.n ka a.a a.l.length a.cap W
  have hTb := fun W => mtarget_any b.k b.t b.f b.n kb b.a b.l.length b.cap W
  rw [show extV (a.t, wlen a.k a.n a.l.length) = extV (a.t, a.w) from rfl] at hTa
  rw [show extV (b.t, wlen b.k b.n b.l.length) = extV (b.t, b.w) from rfl] at hTb
  have HOA := Lib.hid (fun (i : Nat) (hi : (i : Int) < a.w) (W : World) (hW : Below w.heap.size w W) => origin_any a i W (ca.below hW) ha hi)
  have HOB := Lib.hid (fun (i : Nat) (hi : (i : Int) < b.w) (W : World) (hW : Below w.heap.size w W) => origin_any b i W (cb.below hW) hb hi)
  have HSAME := Lib.hid (fun (ht : a.t = b.t) (hw : a.w = b.w) ho => same_org ha hb ht hw ho)
  have HCORE := Lib.hid (fun (h : a.core = b.core) => org_core h)
  have hwa : 1 ≤ a.w := ha.len.1
  have hwb : a.w ≤ 4611686018427387903 := by have := ha.len; have e : lenC a.core = a.w := rfl; have e2 : a.core.2.1 = a.t := rfl; omega
  obtain ⟨POST, hP⟩ : ∃ P, P = Gives (.bool (decide (a.core = b.core))) w := ⟨_, rfl⟩
  have HQ : Hid (∀ r : Bool, (r = true ↔ a.core = b.core) → ∀ W, Below w.heap.size w W → POST (.returned (.bool r)) W) := Lib.hid fun r hr W hW => by
    rw [hP, show decide (a.core = b.core) = r by rw [Bool.eq_iff_iff]; simp [hr]]
    exact ⟨rfl, hW⟩
  rw [← hP]
  have HS := Lib.hid hS
  generalize haw : a.w = wa at *
  generalize hbw : b.w = wb at *
  clear hS hP ha hb ca cb oa ob kb haw hbw
  by_cases ht : a.t = b.t ∧ wa = wb
  · obtain ⟨ht, rfl⟩ := ht
    have hbt : (b.t == a.t) = true := by simp [ht]
    have HT := Lib.hid ht
    have hww : (wa == wa) = true := by simp
    clear ht
    rcases ka with hka | hka
    · have e17 : (a.k == 1) = true := by rw [hka]; rfl
      have hmin : min wa 1 = 1 := by omega
      have HKA := Lib.hid hka
      clear hka
      go_enter Try.func41, Try.ntmps41
      go_wp2_with fail
      rw [HS.out]
      refine (HeldW.call (hTa _)).mono ?_
      rintro e _ ⟨rfl, s2, rfl⟩
      obtain ⟨B, s3, hB, hB0, hlt, hS3⟩ := s2.more1 (extO (a.t, wa))
      have HS3 := Lib.hid (And.intro hS3 hB)
      clear hS3 hB hlt hTa
      go_wp2_with fail
      rw [HS3.out.1, ← HS3.out.2]
      obtain ⟨b0, b1, b2, b3, b4⟩ := held_cmdA s3 (w.heap.size + 1) b.k b.t b.f b.n (.slice b.a b.l.length b.cap) (by simp)
      obtain ⟨p0, p1⟩ := held_extA s3 B (a.t, wa) (by simp)
      refine wp_region_class w _ (by kernel_rfl) (by kernel_rfl) s3.below s3.blocks (fun hne => ?_)
      repeat (go_big_quiet_step ((go_at_call 54; exact HeldW.call (hTb _))))
      refine wpQuiet_nil ?_
      rintro _ ⟨s4, rfl⟩
      clear b0 b1 b2 b3 b4 p0 p1 HS3 s2 s3 hTb
      obtain ⟨p0, p1, -⟩ := held_ext2 s4 B (a.t, wa) (by simp)
      obtain ⟨a0, -, -, -, -, -⟩ := held_cmd s4 w.heap.size a.k a.t a.f a.n (.slice a.a a.l.length a.cap) (by simp)
      go_wp2_with fail
      clear p0 p1 a0
      go_loopw [22] (fun v wr => ∃ k : Nat, k ≤ 1 ∧ v = .int .i64 k ∧ Hid (∀ j : Nat, j < k → orgOf a j = orgOf b j) ∧ ∃ s : HeldW w [(B, extO (a.t, wa)), (w.heap.size + 1, cmdO b.k b.t b.f b.n (.slice b.a b.l.length b.cap)), (w.heap.size, cmdO a.k a.t a.f a.n (.slice a.a a.l.length a.cap))], wr = s.w) (fun v _ => 1 - (intOf v).toNat)
      case atStart => exact ⟨0, by omega, rfl, Lib.hid (fun j hj => by omega), s4, rfl⟩
      case round =>
        clear s4
        obtain ⟨k, hk, rfl, hf, s, rfl⟩ := hrel
        by_cases hlt : k < 1
        · have hki : (k : Int) < wa := by omega
          have hca := fun W hW => HOA.out k hki W hW
          have hcb := fun W hW => HOB.out k hki W hW
          rw [orgOf_eq] at hca hcb
          have hiff : orgOf a k = orgOf b k ↔ orgB a = orgB b ∧ orgF a k = orgF b k ∧ orgX a k = orgX b k := by
            rw [orgOf_eq, orgOf_eq]
            simp
          have HCA := Lib.hid hca
          have HCB := Lib.hid hcb
          have HIFF := Lib.hid hiff
          clear hca hcb hiff
          generalize orgB a = q1 at *
          generalize orgF a k = q2 at *
          generalize orgX a k = q3 at *
          generalize orgB b = r1 at *
          generalize orgF b k = r2 at *
          generalize orgX b k = r3 at *
          by_cases hh : q1 = r1 ∧ q2 = r2 ∧ q3 = r3
          · obtain ⟨rfl, rfl, rfl⟩ := hh
            have HNX : Hid (∀ j : Nat, j < k + 1 → orgOf a j = orgOf b j) := Lib.hid fun j hj => by
              by_cases e : j = k
              · subst e; exact HIFF.out.2 ⟨rfl, rfl, rfl⟩
              · exact hf.out j (by omega)
            have z1 : (q1 == q1) = true := by simp
            have z2 : (q2 == q2) = true := by simp
            have z3 : (q3 == q3) = true := by simp
            go_wp2_with fail
            obtain ⟨a0, a1, a2, a3, a4⟩ := held_cmdA s w.heap.size a.k a.t a.f a.n (.slice a.a a.l.length a.cap) (by simp)
            obtain ⟨b0, b1, b2, b3, b4⟩ := held_cmdA s (w.heap.size + 1) b.k b.t b.f b.n (.slice b.a b.l.length b.cap) (by simp)
            refine wp_region_class w _ (by kernel_rfl) (by kernel_rfl) s.below s.blocks (fun hne => ?_)
            repeat (go_big_quiet_step (first
              | (go_at_call_of 50 a; exact HeldW.call (HCA.out _ (HeldW.below _)))
              | (go_at_call_of 50 b; exact HeldW.call (HCB.out _ (HeldW.below _)))))
            refine wpQuiet_nil ?_
            rintro _ ⟨s5, rfl⟩
            clear hne a0 a1 a2 a3 a4 b0 b1 b2 b3 b4 s
            go_wp2_with fail
            go_roundw
            case rel => exact ⟨k + 1, by omega, by go_num, HNX, s5, rfl⟩
            case measure => simp [intOf]; omega
          · have HF : Hid (∀ W, Below w.heap.size w W → POST (.returned (.bool false)) W) := Lib.hid (HQ.out false (by
              constructor
              · intro h; cases h
              · intro h
                exact absurd (HIFF.out.1 ((HCORE.out h).2.2 k)) hh))
            have hne3 : ((q1 == r1) = false) ∨ ((q1 == r1) = true ∧ (q2 == r2) = false) ∨ ((q1 == r1) = true ∧ (q2 == r2) = true ∧ (q3 == r3) = false) := by
              by_cases h1 : q1 = r1
              · by_cases h2 : q2 = r2
                · right; right
                  refine ⟨by simpa using h1, by simpa using h2, ?_⟩
                  simp only [beq_eq_false_iff_ne, ne_eq]
                  exact fun h3 => hh ⟨h1, h2, h3⟩
                · right; left
                  exact ⟨by simpa using h1, by simpa using h2⟩
              · left; simpa using h1
            clear hh
            rcases hne3 with z1 | ⟨z1, z2⟩ | ⟨z1, z2, z3⟩
            all_goals
              go_wp2_with fail
              obtain ⟨a0, a1, a2, a3, a4⟩ := held_cmdA s w.heap.size a.k a.t a.f a.n (.slice a.a a.l.length a.cap) (by simp)
              obtain ⟨b0, b1, b2, b3, b4⟩ := held_cmdA s (w.heap.size + 1) b.k b.t b.f b.n (.slice b.a b.l.length b.cap) (by simp)
              refine wp_region_class w _ (by kernel_rfl) (by kernel_rfl) s.below s.blocks (fun hne => ?_)
              repeat (go_big_quiet_step (first
                | (go_at_call_of 50 a; exact HeldW.call (HCA.out _ (HeldW.below _)))
                | (go_at_call_of 50 b; exact HeldW.call (HCB.out _ (HeldW.below _)))))
              refine wpQuiet_nil ?_
              rintro _ ⟨s5, rfl⟩
              have HR := Lib.hid (HF.out s5.w s5.below)
              clear hne a0 a1 a2 a3 a4 b0 b1 b2 b3 b4 s
              go_wp2
              exact HR.out
        · have HR := Lib.hid (HQ.out true (by
            constructor
            · intro _
              refine HSAME.out HT.out (by trivial) (fun i hi => hf.out i ?_)
              rw [if_pos HKA.out] at hi
              omega
            · intro _; rfl) s.w s.below)
          go_wp2
          exact HR.out
    · have e17 : (a.k == 1) = false := by rw [hka]; rfl
      have HKA := Lib.hid hka
      obtain ⟨N, rfl⟩ : ∃ N : Nat, wa = N := ⟨wa.toNat, by omega⟩
      clear hka
      go_enter Try.func41, Try.ntmps41
      go_wp2_with fail
      rw [HS.out]
      refine (HeldW.call (hTa _)).mono ?_
      rintro e _ ⟨rfl, s2, rfl⟩
      obtain ⟨B, s3, hB, hB0, hlt, hS3⟩ := s2.more1 (extO (a.t, (N : Int)))
      have HS3 := Lib.hid (And.intro hS3 hB)
      clear hS3 hB hlt hTa
      go_wp2_with fail
      rw [HS3.out.1, ← HS3.out.2]
      obtain ⟨b0, b1, b2, b3, b4⟩ := held_cmdA s3 (w.heap.size + 1) b.k b.t b.f b.n (.slice b.a b.l.length b.cap) (by simp)
      obtain ⟨p0, p1⟩ := held_extA s3 B (a.t, (N : Int)) (by simp)
      refine wp_region_class w _ (by kernel_rfl) (by kernel_rfl) s3.below s3.blocks (fun hne => ?_)
      repeat (go_big_quiet_step ((go_at_call 54; exact HeldW.call (hTb _))))
      refine wpQuiet_nil ?_
      rintro _ ⟨s4, rfl⟩
      clear b0 b1 b2 b3 b4 p0 p1 HS3 s2 s3 hTb
      obtain ⟨p0, p1, -⟩ := held_ext2 s4 B (a.t, (N : Int)) (by simp)
      obtain ⟨a0, -, -, -, -, -⟩ := held_cmd s4 w.heap.size a.k a.t a.f a.n (.slice a.a a.l.length a.cap) (by simp)
      go_wp2_with fail
      clear p0 p1 a0
      go_loopw [22] (fun v wr => ∃ k : Nat, k ≤ N ∧ v = .int .i64 k ∧ Hid (∀ j : Nat, j < k → orgOf a j = orgOf b j) ∧ ∃ s : HeldW w [(B, extO (a.t, (N : Int))), (w.heap.size + 1, cmdO b.k b.t b.f b.n (.slice b.a b.l.length b.cap)), (w.heap.size, cmdO a.k a.t a.f a.n (.slice a.a a.l.length a.cap))], wr = s.w) (fun v _ => N - (intOf v).toNat)
      case atStart => exact ⟨0, by omega, rfl, Lib.hid (fun j hj => by omega), s4, rfl⟩
      case round =>
        clear s4
        obtain ⟨k, hk, rfl, hf, s, rfl⟩ := hrel
        by_cases hlt : k < N
        · have hki : (k : Int) < (N : Int) := by omega
          have hca := fun W hW => HOA.out k hki W hW
          have hcb := fun W hW => HOB.out k hki W hW
          rw [orgOf_eq] at hca hcb
          have hiff : orgOf a k = orgOf b k ↔ orgB a = orgB b ∧ orgF a k = orgF b k ∧ orgX a k = orgX b k := by
            rw [orgOf_eq, orgOf_eq]
            simp
          have HCA := Lib.hid hca
          have HCB := Lib.hid hcb
          have HIFF := Lib.hid hiff
          clear hca hcb hiff
          generalize orgB a = q1 at *
          generalize orgF a k = q2 at *
          generalize orgX a k = q3 at *
          generalize orgB b = r1 at *
          generalize orgF b k = r2 at *
          generalize orgX b k = r3 at *
          by_cases hh : q1 = r1 ∧ q2 = r2 ∧ q3 = r3
          · obtain ⟨rfl, rfl, rfl⟩ := hh
            have HNX : Hid (∀ j : Nat, j < k + 1 → orgOf a j = orgOf b j) := Lib.hid fun j hj => by
              by_cases e : j = k
              · subst e; exact HIFF.out.2 ⟨rfl, rfl, rfl⟩
              · exact hf.out j (by omega)
            have z1 : (q1 == q1) = true := by simp
            have z2 : (q2 == q2) = true := by simp
            have z3 : (q3 == q3) = true := by simp
            go_wp2_with fail
            obtain ⟨a0, a1, a2, a3, a4⟩ := held_cmdA s w.heap.size a.k a.t a.f a.n (.slice a.a a.l.length a.cap) (by simp)
            obtain ⟨b0, b1, b2, b3, b4⟩ := held_cmdA s (w.heap.size + 1) b.k b.t b.f b.n (.slice b.a b.l.length b.cap) (by simp)
            refine wp_region_class w _ (by kernel_rfl) (by kernel_rfl) s.below s.blocks (fun hne => ?_)
            repeat (go_big_quiet_step (first
              | (go_at_call_of 50 a; exact HeldW.call (HCA.out _ (HeldW.below _)))
              | (go_at_call_of 50 b; exact HeldW.call (HCB.out _ (HeldW.below _)))))
            refine wpQuiet_nil ?_
            rintro _ ⟨s5, rfl⟩
            clear hne a0 a1 a2 a3 a4 b0 b1 b2 b3 b4 s
            go_wp2_with fail
            go_roundw
            case rel => exact ⟨k + 1, by omega, by go_num, HNX, s5, rfl⟩
            case measure => simp [intOf]; omega
          · have HF : Hid (∀ W, Below w.heap.size w W → POST (.returned (.bool false)) W) := Lib.hid (HQ.out false (by
              constructor
              · intro h; cases h
              · intro h
                exact absurd (HIFF.out.1 ((HCORE.out h).2.2 k)) hh))
            have hne3 : ((q1 == r1) = false) ∨ ((q1 == r1) = true ∧ (q2 == r2) = false) ∨ ((q1 == r1) = true ∧ (q2 == r2) = true ∧ (q3 == r3) = false) := by
              by_cases h1 : q1 = r1
              · by_cases h2 : q2 = r2
                · right; right
                  refine ⟨by simpa using h1, by simpa using h2, ?_⟩
                  simp only [beq_eq_false_iff_ne, ne_eq]
                  exact fun h3 => hh ⟨h1, h2, h3⟩
                · right; left
                  exact ⟨by simpa using h1, by simpa using h2⟩
              · left; simpa using h1
            clear hh
            rcases hne3 with z1 | ⟨z1, z2⟩ | ⟨z1, z2, z3⟩
            all_goals
              go_wp2_with fail
              obtain ⟨a0, a1, a2, a3, a4⟩ := held_cmdA s w.heap.size a.k a.t a.f a.n (.slice a.a a.l.length a.cap) (by simp)
              obtain ⟨b0, b1, b2, b3, b4⟩ := held_cmdA s (w.heap.size + 1) b.k b.t b.f b.n (.slice b.a b.l.length b.cap) (by simp)
              refine wp_region_class w _ (by kernel_rfl) (by kernel_rfl) s.below s.blocks (fun hne => ?_)
              repeat (go_big_quiet_step (first
                | (go_at_call_of 50 a; exact HeldW.call (HCA.out _ (HeldW.below _)))
                | (go_at_call_of 50 b; exact HeldW.call (HCB.out _ (HeldW.below _)))))
              refine wpQuiet_nil ?_
              rintro _ ⟨s5, rfl⟩
              have HR := Lib.hid (HF.out s5.w s5.below)
              clear hne a0 a1 a2 a3 a4 b0 b1 b2 b3 b4 s
              go_wp2
              exact HR.out
        · have HR := Lib.hid (HQ.out true (by
            constructor
            · intro _
              refine HSAME.out HT.out (by trivial) (fun i hi => hf.out i ?_)
              rw [if_neg (by have := HKA.out; omega)] at hi
              omega
            · intro _; rfl) s.w s.below)
          go_wp2
          exact HR.out
  · have HT := Lib.hid ht
    have hne : (b.t == a.t) = false ∨ ((b.t == a.t) = true ∧ (wb == wa) = false) := by
      by_cases h : b.t = a.t
      · right
        refine ⟨by simpa using h, ?_⟩
        simp only [beq_eq_false_iff_ne, ne_eq]
        intro h2
        exact ht ⟨h.symm, h2.symm⟩
      · left; simpa using h
    have HF : Hid (∀ W, Below w.heap.size w W → POST (.returned (.bool false)) W) := Lib.hid (HQ.out false (by
      constructor
      · intro h; cases h
      · intro h
        have := HCORE.out h
        exact absurd ⟨this.1, this.2.1⟩ HT.out))
    clear ht
    rcases hne with hne | ⟨hne1, hne⟩
    all_goals
      go_enter Try.func41, Try.ntmps41
      go_wp2_with fail
      rw [HS.out]
      refine (HeldW.call (hTa _)).mono ?_
      rintro e _ ⟨rfl, s2, rfl⟩
      obtain ⟨B, s3, hB, hB0, hlt, hS3⟩ := s2.more1 (extO (a.t, wa))
      have HS3 := Lib.hid (And.intro hS3 hB)
      clear hS3 hB hlt hTa
      go_wp2_with fail
      rw [HS3.out.1, ← HS3.out.2]
      obtain ⟨b0, b1, b2, b3, b4⟩ := held_cmdA s3 (w.heap.size + 1) b.k b.t b.f b.n (.slice b.a b.l.length b.cap) (by simp)
      obtain ⟨p0, p1⟩ := held_extA s3 B (a.t, wa) (by simp)
      refine wp_region_class w _ (by kernel_rfl) (by kernel_rfl) s3.below s3.blocks (fun hne => ?_)
      repeat (go_big_quiet_step ((go_at_call 54; exact HeldW.call (hTb _))))
      refine wpQuiet_nil ?_
      rintro _ ⟨s4, rfl⟩
      have HR := Lib.hid (HF.out s4.w s4.below)
      clear b0 b1 b2 b3 b4 p0 p1
      go_wp2
      exact HR.out

set_option maxRecDepth 100000 in
set_option maxHeartbeats 4000000 in
theorem equalFunc9_any (ca da : Option Addr) (cs ds : List Cmd) (ccap dcap : Nat) (w : World) (h1 : CmdsIn w ca cs ccap) (h2 : CmdsIn w da ds dcap) (hg1 : ∀ c ∈ cs, GoodB c.core) (hg2 : ∀ c ∈ ds, GoodB c.core) :
    Calls Try.prog 40 #[.slice ca cs.length ccap, .slice da ds.length dcap, .func (.func 41) #[] #[]] w (Gives (.bool (decide (cores cs = cores ds))) w) := by
  have hpost : Hid (∀ (r : Bool) (s : HeldW w []), r = decide (cores cs = cores ds) → Gives (.bool (decide (cores cs = cores ds))) w (.returned (.bool r)) s.w) := Lib.hid fun r s hr => by
    rw [← hr]; exact ⟨rfl, s.below⟩
  have HC := Lib.hid h1
  have HE := Lib.hid h2
  have HG1 := Lib.hid hg1
  have HG2 := Lib.hid hg2
  obtain ⟨L, hLe⟩ : ∃ L, L = cs.length := ⟨_, rfl⟩
  obtain ⟨M, hMe⟩ : ∃ M, M = ds.length := ⟨_, rfl⟩
  have HL := Lib.hid hLe
  have HM := Lib.hid hMe
  have hLcap : L ≤ ccap := by rw [hLe]; exact h1.len
  have hccap := h1.capb
  have hMcap : M ≤ dcap := by rw [hMe]; exact h2.len
  have hdcap := h2.capb
  rw [← hLe, ← hMe]
  generalize Gives (.bool (decide (cores cs = cores ds))) w = POST at hpost ⊢
  clear h1 h2 hLe hMe hg1 hg2
  by_cases hlm : L = M
  · subst hlm
    go_enter Try.func40, Try.ntmps40
    go_wp2
    go_loopw [17] (fun v wr => ∃ k : Nat, k ≤ L ∧ v = .int .i64 k ∧ Hid (∀ (j : Nat) (a b : Cmd), j < k → cs[j]? = some a → ds[j]? = some b → a.core = b.core) ∧ ∃ s : HeldW w [], wr = s.w) (fun v _ => L - (intOf v).toNat)
    case atStart => exact ⟨0, by omega, rfl, Lib.hid (fun j a b hj => by omega), HeldW.start w, rfl⟩
    case round =>
      obtain ⟨k, hk, rfl, hf, s, rfl⟩ := hrel
      by_cases hlt : k < L
      · obtain ⟨c, hc⟩ : ∃ c, cs[k]? = some c := ⟨_, List.getElem?_eq_getElem (by rw [← HL.out]; exact hlt)⟩
        obtain ⟨d, hd⟩ : ∃ c, ds[k]? = some c := ⟨_, List.getElem?_eq_getElem (by rw [← HM.out]; exact hlt)⟩
        obtain ⟨b, oo, rfl, x0, x1, x2, x3, x4⟩ := (HC.out.W s).at hc
        obtain ⟨b', oo', rfl, y0, y1, y2, y3, y4⟩ := (HE.out.W s).at hd
        have k0 := World.block_lt_of_cell? _ _ y0
        simp only at k0
        have hcc := fun w' (hb : Below w.heap.size w w') => same9_any c d w' ((HC.out.ok c (List.mem_of_getElem? hc)).below hb) ((HE.out.ok d (List.mem_of_getElem? hd)).below hb) (HG1.out c (List.mem_of_getElem? hc)) (HG2.out d (List.mem_of_getElem? hd))
        have HCC := Lib.hid hcc
        have HCD := Lib.hid hc
        have HDD := Lib.hid hd
        clear hcc hc hd
        have z : ∀ (oz : Obj) (i : Nat), (s.w.alloc oz).cell? ⟨b', i, none⟩ = s.w.cell? ⟨b', i, none⟩ := fun oz i => ((Below.refl _ s.w).alloc (Nat.le_refl _) oz).cell (p := ⟨b', i, none⟩) k0
        have z0 := fun oz => (z oz (oo' + k * 5)).trans y0
        have z1 := fun oz => (z oz (oo' + k * 5 + 1)).trans y1
        have z2 := fun oz => (z oz (oo' + k * 5 + 2)).trans y2
        have z3 := fun oz => (z oz (oo' + k * 5 + 3)).trans y3
        have z4 := fun oz => (z oz (oo' + k * 5 + 4)).trans y4
        clear y0 y1 y2 y3 y4 z
        by_cases hh : c.core = d.core
        · have hstep : Hid (∀ (j : Nat) (a b : Cmd), j < k + 1 → cs[j]? = some a → ds[j]? = some b → a.core = b.core) := Lib.hid fun j a b hj ha hb => by
            by_cases e : j = k
            · subst e; rw [HCD.out] at ha; rw [HDD.out] at hb; cases ha; cases hb; exact hh
            · exact hf.out j a b (by omega) ha hb
          rw [decide_eq_true hh] at HCC
          clear hh
          go_wp2_with fail
          obtain ⟨B, S2, hB, hB0, hlt2, hS⟩ := s.more2 (cmdO c.k c.t c.f c.n (.slice c.a c.l.length c.cap)) (cmdO d.k d.t d.f d.n (.slice d.a d.l.length d.cap))
          rw [hS]
          refine (HeldW.call (s := S2) (HCC.out S2.w S2.below)).mono ?_
          rintro e _ ⟨rfl, s3, rfl⟩
          go_wp2
          go_roundw
          case rel => exact ⟨k + 1, by omega, by go_num, hstep, s3.sub (fun p hp => by simp at hp), rfl⟩
          case measure => simp [intOf]; omega
        · have hT : Hid (false = decide (cores cs = cores ds)) := Lib.hid (by
            symm
            rw [decide_eq_false_iff_not]
            intro he
            have h1 := cores_get HCD.out
            rw [he, cores_get HDD.out] at h1
            exact hh (Option.some.inj h1).symm)
          rw [decide_eq_false hh] at HCC
          clear hh
          go_wp2_with fail
          obtain ⟨B, S2, hB, hB0, hlt2, hS⟩ := s.more2 (cmdO c.k c.t c.f c.n (.slice c.a c.l.length c.cap)) (cmdO d.k d.t d.f d.n (.slice d.a d.l.length d.cap))
          rw [hS]
          refine (HeldW.call (s := S2) (HCC.out S2.w S2.below)).mono ?_
          rintro e _ ⟨rfl, s3, rfl⟩
          go_wp2
          exact hpost.out _ (s3.sub (fun p hp => by simp at hp)) hT.out
      · obtain rfl : k = L := by omega
        have hT : Hid (true = decide (cores cs = cores ds)) := Lib.hid (by
          symm
          rw [decide_eq_true_eq]
          exact cores_eq_of (by rw [← HL.out, ← HM.out]) (fun i a b hi ha hb => hf.out i a b (by rw [HL.out]; exact hi) ha hb))
        go_wp2
        exact hpost.out _ s hT.out
  · have hT : Hid (false = decide (cores cs = cores ds)) := Lib.hid (by
      symm
      rw [decide_eq_false_iff_not]
      intro he
      exact hlm (by rw [HL.out, HM.out]; exact cores_len he))
    have e1 : ((L : Int) != (M : Int)) = true := by simp; omega
    clear hlm
    go_enter Try.func40, Try.ntmps40
    go_wp2
    exact hpost.out _ (HeldW.start w) hT.out

end Go.Proofs.Ytgmjppjgbalapaa

/- Maps from bytes, and from pairs of numbers, to numbers: looked up, stored into. -/
namespace Go.Proofs.Ytgmjppjgbalapaa
open Go.RowKit
set_option linter.unusedVariables false
set_option linter.unusedSimpArgs false

set_option linter.unusedSectionVars false
section
variable {K : Type} [DecidableEq K]
/-- What a map's entries hold at a key: the place and the number. -/
def lookE : List (K × Int × Nat) → K → Nat → Option (Nat × Int)
  | [], _, _ => none
  | e :: es, x, i => if e.1 = x then some (i, e.2.1) else lookE es x (i + 1)
def getE (es : List (K × Int × Nat)) (x : K) : Option Int := (lookE es x 0).map (·.2)
/-- A number is stored at a key. -/
def updE (es : List (K × Int × Nat)) (clock : Nat) (x : K) (v : Int) : List (K × Int × Nat) :=
  match lookE es x 0 with
  | some (i, _) => es.modify i fun e => (x, v, e.2.2)
  | none => es ++ [(x, v, clock)]
def clkE (es : List (K × Int × Nat)) (clock : Nat) (x : K) : Nat := match lookE es x 0 with
  | some _ => clock
  | none => clock + 1
theorem lookE_shift : ∀ (es : List (K × Int × Nat)) (x : K) (i : Nat), lookE es x i = (lookE es x 0).map fun p => (p.1 + i, p.2) := by
  intro es
  induction es with
  | nil => intro x i; rfl
  | cons e es ih =>
    intro x i
    simp only [lookE]
    by_cases h : e.1 = x
    · rw [if_pos h, if_pos h]; simp
    · rw [if_neg h, if_neg h, ih x (i + 1), ih x (0 + 1), Option.map_map]
      congr 1
      funext p
      simp only [Function.comp]
      rw [show p.1 + (0 + 1) + i = p.1 + (i + 1) by omega]
theorem getE_cons (e : K × Int × Nat) (es : List (K × Int × Nat)) (x : K) : getE (e :: es) x = if e.1 = x then some e.2.1 else getE es x := by
  unfold getE
  simp only [lookE]
  by_cases h : e.1 = x
  · rw [if_pos h, if_pos h]; rfl
  · rw [if_neg h, if_neg h, lookE_shift es x (0 + 1), Option.map_map]
    congr 1
theorem lookE_at : ∀ (es : List (K × Int × Nat)) (x : K) (i : Nat) (v : Int), lookE es x 0 = some (i, v) → ∃ e, es[i]? = some e ∧ e.1 = x ∧ e.2.1 = v := by
  intro es
  induction es with
  | nil => intro x i v h; simp [lookE] at h
  | cons e es ih =>
    intro x i v h
    simp only [lookE] at h
    by_cases hx : e.1 = x
    · rw [if_pos hx] at h
      simp only [Option.some.injEq, Prod.mk.injEq] at h
      obtain ⟨rfl, rfl⟩ := h
      exact ⟨e, rfl, hx, rfl⟩
    · rw [if_neg hx, lookE_shift] at h
      obtain ⟨⟨j, u⟩, hj, he⟩ := Option.map_eq_some_iff.1 h
      simp only [Prod.mk.injEq] at he
      obtain ⟨rfl, rfl⟩ := he
      obtain ⟨e', h1, h2⟩ := ih x j u hj
      exact ⟨e', by simpa using h1, h2⟩
theorem getE_modify : ∀ (es : List (K × Int × Nat)) (x : K) (i : Nat) (v w : Int), lookE es x 0 = some (i, v) → ∀ y, getE (es.modify i fun e => (x, w, e.2.2)) y = if y = x then some w else getE es y := by
  intro es
  induction es with
  | nil => intro x i v w h; simp [lookE] at h
  | cons e es ih =>
    intro x i v w h y
    simp only [lookE] at h
    by_cases hx : e.1 = x
    · rw [if_pos hx] at h
      simp only [Option.some.injEq, Prod.mk.injEq] at h
      obtain ⟨rfl, rfl⟩ := h
      simp only [List.modify_zero_cons, getE_cons, hx]
      by_cases hy : y = x
      · subst hy; simp
      · rw [if_neg hy, if_neg (Ne.symm hy), if_neg (Ne.symm hy)]
    · rw [if_neg hx, lookE_shift] at h
      obtain ⟨⟨j, u⟩, hj, he⟩ := Option.map_eq_some_iff.1 h
      simp only [Prod.mk.injEq] at he
      obtain ⟨rfl, rfl⟩ := he
      simp only [List.modify_succ_cons, getE_cons, ih x j u w hj y]
      by_cases hy : y = x
      · subst hy; rw [if_neg hx, if_pos rfl, if_pos rfl]
      · rw [if_neg hy, if_neg hy]
theorem getE_append : ∀ (es : List (K × Int × Nat)) (x : K) (w : Int) (c : Nat), lookE es x 0 = none → ∀ y, getE (es ++ [(x, w, c)]) y = if y = x then some w else getE es y := by
  intro es
  induction es with
  | nil =>
    intro x w c _ y
    rw [List.nil_append, getE_cons]
    by_cases hy : y = x
    · subst hy; simp
    · rw [if_neg hy, if_neg (Ne.symm hy)]
  | cons e es ih =>
    intro x w c h y
    simp only [lookE] at h
    by_cases hx : e.1 = x
    · rw [if_pos hx] at h; cases h
    · rw [if_neg hx, lookE_shift] at h
      have h0 : lookE es x 0 = none := by simpa using h
      rw [List.cons_append, getE_cons, getE_cons, ih x w c h0 y]
      by_cases hy : y = x
      · subst hy; rw [if_neg hx, if_pos rfl, if_pos rfl]
      · rw [if_neg hy, if_neg hy]
theorem getE_upd (es : List (K × Int × Nat)) (clock : Nat) (x : K) (w : Int) (y : K) : getE (updE es clock x w) y = if y = x then some w else getE es y := by
  unfold updE
  cases h : lookE es x 0 with
  | none => exact getE_append es x w clock h y
  | some p => exact getE_modify es x p.1 p.2 w h y

/-- The entries of a map. -/
def entE (key : K → Value) (e : K × Int × Nat) : MapEntry := ⟨key e.1, .int .i64 e.2.1, e.2.2⟩
abbrev mapO (key : K → Value) (es : List (K × Int × Nat)) (clock : Nat) : Obj := .map (es.map (entE key)).toArray clock
theorem ent_modify (key : K → Value) (x : K) (v : Int) : ∀ (es : List (K × Int × Nat)) (i : Nat), (es.map (entE key)).modify i (fun e => ⟨key x, .int .i64 v, e.born⟩) = (es.modify i (fun e => (x, v, e.2.2))).map (entE key) := by
  intro es
  induction es with
  | nil => intro i; cases i <;> rfl
  | cons e es ih =>
    intro i
    cases i with
    | zero => rfl
    | succ i => simp only [List.map_cons, List.modify_succ_cons, ih i]
/-- What keys must be. -/
structure KeyK (mt kt : TypeId) (key : K → Value) : Prop where
  und : Try.prog.underlying mt = some (.map kt 3)
  chk : ∀ (b : Bool) (w : World) (x : K), (Instr.checkKey b 10000 kt (key x)).run Try.prog w = .ok () w
  fnd : ∀ (w : World) (x : K) (es : List (K × Int × Nat)), (Instr.findKey kt (key x) (es.map (entE key))).run Try.prog w = .ok ((lookE es x 0).map fun p => (p.1, .int .i64 p.2)) w
  stay : ∀ (w : World) (x : K), (Instr.keyThatStays (key x) (key x)).run Try.prog w = .ok (key x) w

theorem lookup_any {mt kt : TypeId} {key : K → Value} (hK : KeyK mt kt key) (w : World) (M : Nat) (es : List (K × Int × Nat)) (clock : Nat) (h : w.heap[M]? = some (mapO key es clock)) (x : K) :
    (Instr.lookup mt (.map (some M)) (key x) true).run Try.prog w = .ok (.tuple #[.int .i64 ((getE es x).getD 0), .bool (getE es x).isSome]) w := by
  have hz : (zeroValue 3).run Try.prog w = .ok (.int .i64 0) w := by kernel_rfl
  have hf := hK.fnd w x es
  simp only [Instr.lookup, Sem.run_bind, run_underlying hK.und, Result.andThen_ok, getObj, Sem.run, h, hK.chk, Sem.run_pure]
  rw [hf]
  unfold getE
  cases hl : lookE es x 0 with
  | none => simp [hz]
  | some p => simp
theorem update_any {mt kt : TypeId} {key : K → Value} (hK : KeyK mt kt key) (w : World) (M : Nat) (es : List (K × Int × Nat)) (clock : Nat) (h : w.heap[M]? = some (mapO key es clock)) (x : K) (v : Int) :
    (Instr.mapUpdate mt (.map (some M)) (key x) (.int .i64 v)).run Try.prog w = .ok () { w with heap := w.heap.setIfInBounds M (mapO key (updE es clock x v) (clkE es clock x)) } := by
  have hf := hK.fnd w x es
  simp only [Instr.mapUpdate, Sem.run_bind, run_underlying hK.und, Result.andThen_ok, getObj, setObj, Sem.run, h, hK.chk]
  rw [hf]
  unfold updE clkE
  cases hl : lookE es x 0 with
  | none =>
    simp only [setObj, Sem.run, h, Option.map_none, Sem.run_pure, Result.andThen_ok]
    rw [show (mapO key (es ++ [(x, v, clock)]) (clock + 1)) = .map (es.map (entE key) ++ [(⟨key x, .int .i64 v, clock⟩ : MapEntry)]).toArray (clock + 1) by simp [entE]]
    simp
  | some p =>
    obtain ⟨i, u⟩ := p
    obtain ⟨e, he, he1, he2⟩ := lookE_at es x i u hl
    have hk : (((es.map (entE key)).toArray[i]?).map (·.key)).getD (key x) = key x := by simp [he, entE, he1]
    simp only [Option.map_some, hk, Sem.run_bind, hK.stay, Result.andThen_ok]
    simp [entE, he, setObj, Sem.run, h]
    rw [ent_modify]
end
end Go.Proofs.Ytgmjppjgbalapaa
