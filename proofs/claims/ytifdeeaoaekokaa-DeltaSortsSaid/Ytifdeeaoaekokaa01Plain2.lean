/- Plain mathematics for package extent, of two extents. No Go text. -/
namespace Go.Proofs.Ytifdeeaoaekokaa.Plain01

/-- The extent of the bytes that two extents have. -/
def ovl (a b : Int × Int) : Int × Int := if min (a.1 + a.2) (b.1 + b.2) ≤ max a.1 b.1 then (0, 0) else (max a.1 b.1, min (a.1 + a.2) (b.1 + b.2) - max a.1 b.1)
def ovlB (a b : Int × Int) : Bool := decide (max a.1 b.1 < min (a.1 + a.2) (b.1 + b.2))
theorem ovl_no {a b : Int × Int} (h : min (a.1 + a.2) (b.1 + b.2) ≤ max a.1 b.1) : ovl a b = (0, 0) ∧ ovlB a b = false := by
  unfold ovl ovlB; rw [if_pos h]; simp; omega
theorem ovl_yes {a b : Int × Int} {lo hi : Int} (hlo : max a.1 b.1 = lo) (hhi : min (a.1 + a.2) (b.1 + b.2) = hi) (h : lo < hi) : ovl a b = (lo, hi - lo) ∧ ovlB a b = true := by
  subst hlo; subst hhi
  unfold ovl ovlB; rw [if_neg (by omega)]; simp; omega

/-- The extent from the smaller beginning to the greater end. -/
def jn (a b : Int × Int) : Int × Int := (min a.1 b.1, max (a.1 + a.2) (b.1 + b.2) - min a.1 b.1)
theorem jn_eq {a b : Int × Int} {lo hi : Int} (hlo : min a.1 b.1 = lo) (hhi : max (a.1 + a.2) (b.1 + b.2) = hi) : jn a b = (lo, hi - lo) := by subst hlo; subst hhi; rfl

end Go.Proofs.Ytifdeeaoaekokaa.Plain01
