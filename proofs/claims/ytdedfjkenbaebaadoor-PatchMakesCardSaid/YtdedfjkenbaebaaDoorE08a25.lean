import Derived.Great.BuildSlice
import Derived.Test.YtdedfjkenbaebaaDoorE08a24
import Derived.Test.YtdedfjkenbaebaaDoorE08a18
import Derived.Test.YtdedfjkenbaebaaDoorE08a5
import Derived.BigQuiet
import Derived.Test.YtdedfjkenbaebaaDoorE08a15
import Derived.Test.YtdedfjkenbaebaaDoorE08a13
import Derived.Test.YtdedfjkenbaebaaDoorE08a9
import Derived.Test.YtdedfjkenbaebaaDoorE08a3
/- Describe and Make of package patch. -/
namespace Go.Proofs.YtdedfjkenbaebaaDoor
open Go.RowKit
set_option linter.unusedVariables false
set_option linter.unusedSimpArgs false

theorem uncons8 {l : List Int} {n : Nat} (h : l.length = n + 1) : ∃ a t, l = a :: t ∧ t.length = n := by
  cases l with
  | nil => simp at h
  | cons a t => exact ⟨a, t, rfl, by simpa using h⟩
set_option maxRecDepth 100000 in
set_option maxHeartbeats 4000000 in
theorem built_delta (o n : Int) (x y : List Int) (hx : x.length = 32) (hy : y.length = 32) :
    Tryd.prog.built 26 [(0, .int .i64 o), (1, .int .i64 n), (2, .agg (byteA x)), (3, .agg (byteA y))] = some (deltaA o n x y (.slice none 0 0)) := by
  obtain ⟨a0, at0, rfl, ah0⟩ := uncons8 hx
  obtain ⟨a1, at1, rfl, ah1⟩ := uncons8 ah0
  obtain ⟨a2, at2, rfl, ah2⟩ := uncons8 ah1
  obtain ⟨a3, at3, rfl, ah3⟩ := uncons8 ah2
  obtain ⟨a4, at4, rfl, ah4⟩ := uncons8 ah3
  obtain ⟨a5, at5, rfl, ah5⟩ := uncons8 ah4
  obtain ⟨a6, at6, rfl, ah6⟩ := uncons8 ah5
  obtain ⟨a7, at7, rfl, ah7⟩ := uncons8 ah6
  obtain ⟨a8, at8, rfl, ah8⟩ := uncons8 ah7
  obtain ⟨a9, at9, rfl, ah9⟩ := uncons8 ah8
  obtain ⟨a10, at10, rfl, ah10⟩ := uncons8 ah9
  obtain ⟨a11, at11, rfl, ah11⟩ := uncons8 ah10
  obtain ⟨a12, at12, rfl, ah12⟩ := uncons8 ah11
  obtain ⟨a13, at13, rfl, ah13⟩ := uncons8 ah12
  obtain ⟨a14, at14, rfl, ah14⟩ := uncons8 ah13
  obtain ⟨a15, at15, rfl, ah15⟩ := uncons8 ah14
  obtain ⟨a16, at16, rfl, ah16⟩ := uncons8 ah15
  obtain ⟨a17, at17, rfl, ah17⟩ := uncons8 ah16
  obtain ⟨a18, at18, rfl, ah18⟩ := uncons8 ah17
  obtain ⟨a19, at19, rfl, ah19⟩ := uncons8 ah18
  obtain ⟨a20, at20, rfl, ah20⟩ := uncons8 ah19
  obtain ⟨a21, at21, rfl, ah21⟩ := uncons8 ah20
  obtain ⟨a22, at22, rfl, ah22⟩ := uncons8 ah21
  obtain ⟨a23, at23, rfl, ah23⟩ := uncons8 ah22
  obtain ⟨a24, at24, rfl, ah24⟩ := uncons8 ah23
  obtain ⟨a25, at25, rfl, ah25⟩ := uncons8 ah24
  obtain ⟨a26, at26, rfl, ah26⟩ := uncons8 ah25
  obtain ⟨a27, at27, rfl, ah27⟩ := uncons8 ah26
  obtain ⟨a28, at28, rfl, ah28⟩ := uncons8 ah27
  obtain ⟨a29, at29, rfl, ah29⟩ := uncons8 ah28
  obtain ⟨a30, at30, rfl, ah30⟩ := uncons8 ah29
  obtain ⟨a31, at31, rfl, ah31⟩ := uncons8 ah30
  obtain rfl := List.eq_nil_of_length_eq_zero ah31
  obtain ⟨b0, bt0, rfl, bh0⟩ := uncons8 hy
  obtain ⟨b1, bt1, rfl, bh1⟩ := uncons8 bh0
  obtain ⟨b2, bt2, rfl, bh2⟩ := uncons8 bh1
  obtain ⟨b3, bt3, rfl, bh3⟩ := uncons8 bh2
  obtain ⟨b4, bt4, rfl, bh4⟩ := uncons8 bh3
  obtain ⟨b5, bt5, rfl, bh5⟩ := uncons8 bh4
  obtain ⟨b6, bt6, rfl, bh6⟩ := uncons8 bh5
  obtain ⟨b7, bt7, rfl, bh7⟩ := uncons8 bh6
  obtain ⟨b8, bt8, rfl, bh8⟩ := uncons8 bh7
  obtain ⟨b9, bt9, rfl, bh9⟩ := uncons8 bh8
  obtain ⟨b10, bt10, rfl, bh10⟩ := uncons8 bh9
  obtain ⟨b11, bt11, rfl, bh11⟩ := uncons8 bh10
  obtain ⟨b12, bt12, rfl, bh12⟩ := uncons8 bh11
  obtain ⟨b13, bt13, rfl, bh13⟩ := uncons8 bh12
  obtain ⟨b14, bt14, rfl, bh14⟩ := uncons8 bh13
  obtain ⟨b15, bt15, rfl, bh15⟩ := uncons8 bh14
  obtain ⟨b16, bt16, rfl, bh16⟩ := uncons8 bh15
  obtain ⟨b17, bt17, rfl, bh17⟩ := uncons8 bh16
  obtain ⟨b18, bt18, rfl, bh18⟩ := uncons8 bh17
  obtain ⟨b19, bt19, rfl, bh19⟩ := uncons8 bh18
  obtain ⟨b20, bt20, rfl, bh20⟩ := uncons8 bh19
  obtain ⟨b21, bt21, rfl, bh21⟩ := uncons8 bh20
  obtain ⟨b22, bt22, rfl, bh22⟩ := uncons8 bh21
  obtain ⟨b23, bt23, rfl, bh23⟩ := uncons8 bh22
  obtain ⟨b24, bt24, rfl, bh24⟩ := uncons8 bh23
  obtain ⟨b25, bt25, rfl, bh25⟩ := uncons8 bh24
  obtain ⟨b26, bt26, rfl, bh26⟩ := uncons8 bh25
  obtain ⟨b27, bt27, rfl, bh27⟩ := uncons8 bh26
  obtain ⟨b28, bt28, rfl, bh28⟩ := uncons8 bh27
  obtain ⟨b29, bt29, rfl, bh29⟩ := uncons8 bh28
  obtain ⟨b30, bt30, rfl, bh30⟩ := uncons8 bh29
  obtain ⟨b31, bt31, rfl, bh31⟩ := uncons8 bh30
  obtain rfl := List.eq_nil_of_length_eq_zero bh31
  kernel_rfl

/-- A slice of bytes as the only part. -/
abbrev partBox (a : Option Addr) (n cap : Nat) : Obj := .cells #[.slice a n cap] 22 (0, 0)
set_option maxRecDepth 100000 in
set_option maxHeartbeats 4000000 in
theorem pdescribe_any (a b : Option Addr) (l x : List Int) (cap capx : Nat) (ca : Option Addr) (cs : List Cmd) (ccap : Nat) (w : World) (hR : Roots w) (hl : BytesIn w a l cap) (hx : BytesIn w b x capx) (hC : CmdsIn w ca cs ccap) (hL : l.length ≤ 1000) (hX : x.length ≤ 1000) (hn : cs.length ≤ 1000000) (hsm : ∀ c ∈ cs, c.l.length ≤ 1000000) :
    Calls Tryd.prog 30 #[.slice a l.length cap, .slice b x.length capx, .slice ca cs.length ccap] w (WithPost2 l.length x.length (shaL l) (shaL x) cs w) := by
  have hz := zero_delta
  obtain ⟨S1, hS1⟩ := start2 w (deltaO zeroDel) (partBox a l.length cap)
  have HO1 : Hid (Calls Tryd.prog 37 #[.slice (some ⟨w.heap.size + 1, 0, none⟩) 1 1] S1.w (Gives (.agg (byteA (shaL l))) S1.w)) := Lib.hid (by
    have := of_any [l] (some ⟨w.heap.size + 1, 0, none⟩) 1 S1.w (hR.W S1) (fun g hg => (parts_one (S1.blocks (w.heap.size + 1, partBox a l.length cap) (by simp)) rfl (hl.below S1.below)).at hg) (by simp) (by simp; omega)
    rw [show [l].flatten = l by simp] at this
    exact this)
  have HO2 : Hid (∀ (B : Nat) (bs : List (Nat × Obj)) (S : HeldW w ((B, partBox b x.length capx) :: bs)), Calls Tryd.prog 37 #[.slice (some ⟨B, 0, none⟩) 1 1] S.w (Gives (.agg (byteA (shaL x))) S.w)) := Lib.hid fun B bs S => by
    have := of_any [x] (some ⟨B, 0, none⟩) 1 S.w (hR.W S) (fun g hg => (parts_one (S.blocks (B, partBox b x.length capx) (by simp)) rfl (hx.below S.below)).at hg) (by simp) (by simp; omega)
    rw [show [x].flatten = x by simp] at this
    exact this
  have hbl := built_delta (l.length : Int) (x.length : Int) (shaL l) (shaL x) (shaL_length _) (shaL_length _)
  have hD1 : DeltaOf (deltaA (l.length : Int) (x.length : Int) (shaL l) (shaL x) (.slice none 0 0)) l.length x.length (shaL l) (shaL x) (.slice none 0 0) := ⟨rfl, shaL_length _, shaL_length _⟩
  obtain ⟨D1, hDe⟩ : ∃ D, D = deltaA (l.length : Int) (x.length : Int) (shaL l) (shaL x) (.slice none 0 0) := ⟨_, rfl⟩
  rw [← hDe] at hbl hD1
  have hinf := infoDelta hD1
  have hone := hD1.one rfl
  have hsz : zeroDel.size = D1.size := by rw [zeroDel_of.size, hD1.size]
  have HW : Hid (∀ W, Below w.heap.size w W → Calls Tryd.prog 40 #[.agg D1, .slice ca cs.length ccap] W (WithPost2 l.length x.length (shaL l) (shaL x) cs W)) := Lib.hid fun W hb => dwith_any2 D1 _ _ _ _ _ ca cs ccap hD1 W (hC.below hb) hn hsm
  have HS1 := Lib.hid hS1
  have HPOST : Hid (∀ (D' : Array Value) (g : Nat) (ds : List Cmd) (w' : World), DeltaOf D' l.length x.length (shaL l) (shaL x) (.slice (some ⟨g, 0, none⟩) ds.length ds.length) → CmdsIn w' (some ⟨g, 0, none⟩) ds ds.length → cores ds = cores cs → Below w.heap.size w w' → w.heap.size ≤ g → (∀ c ∈ ds, Apart w.heap.size c.a) → WithPost2 l.length x.length (shaL l) (shaL x) cs w (.returned (.agg D')) w') := Lib.hid fun D' g ds w' h1 h2 h3 h4 h5 h6 => ⟨D', g, ds, rfl, h1, h2, h3, h4, h5, h6⟩
  generalize WithPost2 l.length x.length (shaL l) (shaL x) cs w = POST at HPOST ⊢
  have hl0 : l.length ≤ 1000 := hL
  have hx0 : x.length ≤ 1000 := hX
  clear hS1 hDe hR hl hx hC hL hX hn hsm
  generalize shaL l = dl at *
  generalize shaL x = dx at *
  generalize l.length = LL at *
  generalize x.length = XX at *
  generalize cs.length = CC at *
  go_enter Tryd.func30, Tryd.ntmps30
  go_wp2_with fail
  rw [HS1.out]
  refine (HeldW.call HO1.out).mono ?_
  rintro e _ ⟨rfl, s2, rfl⟩
  clear HS1 HO1 S1
  obtain ⟨B3, s3, hB3, hB3w, hlt3, hS3⟩ := s2.more1 (partBox b XX capx)
  have HS3 := Lib.hid (And.intro hB3 hS3)
  clear hB3 hS3
  go_wp2_with fail
  rw [HS3.out.2, ← HS3.out.1]
  refine (HeldW.call (HO2.out _ _ s3)).mono ?_
  rintro e _ ⟨rfl, s4, rfl⟩
  clear HS3 s3 s2 HO2
  obtain ⟨s5, h5⟩ : ∃ s5 : HeldW w [(w.heap.size, deltaO zeroDel)], s4.w = s5.w := ⟨s4.sub (fun p hp => by simp at hp; simp [hp]), rfl⟩
  rw [h5]
  clear h5 s4
  obtain ⟨B6, s6, hB6, hB6w, hlt6, hS6⟩ := s5.more1 (deltaO zeroDel)
  have HS6 := Lib.hid (And.intro hB6 hS6)
  have hg6 := s6.blocks (B6, deltaO zeroDel) (by simp)
  have hg0 : w.heap.size < B6 := hlt6 (w.heap.size, deltaO zeroDel) (by simp)
  clear hB6 hS6 hlt6 hlt3
  have hg7 : (s6.w.setRow B6 D1).heap[B6]? = some (deltaO D1) := setRow_heap _ _ _ _ _ _ hg6
  go_wp2_with (first
    | (refine wpList_buildTo rfl 26 _ rfl (some 18) rfl D1 (by simp only [List.map_toArray, List.map_cons, List.map_nil]; exact hbl) ?_)
    | (rw [HS6.out.2, ← HS6.out.1]; refine wpList_store_rowTo rfl 26 (.tmp 7) (.tmp 18) rfl rfl B6 D1 rfl rfl 26 zeroDel hg6 hinf hsz hone ?_)
    | (refine wpList_load_row rfl 26 (.tmp 7) rfl B6 rfl 26 _ (0, 0) _ hg7 Tryd.underlying26 rfl hinf ?_))
  clear HS6
  have hW7 : Below w.heap.size w (s6.w.setRow B6 D1) := below_setRow s6.below hB6w D1
  refine (HW.out _ hW7).mono ?_
  rintro e W8 ⟨D', g, ds, rfl, hD', hin, hco, hB8, hg8, hap⟩
  have hz8 : W8.heap[w.heap.size]? = some (deltaO zeroDel) := heap_below ((setRow_other _ _ _ _ (by omega)).trans (s6.blocks (w.heap.size, deltaO zeroDel) (by simp))) hB8
  have hinf8 := infoDelta hD'
  have hone8 := hD'.one rfl
  have hsz8 : zeroDel.size = D'.size := by rw [zeroDel_of.size, hD'.size]
  have hge : (s6.w.setRow B6 D1).heap.size ≤ g := hg8
  have hB7 : B6 < (s6.w.setRow B6 D1).heap.size := (Array.getElem?_eq_some_iff.1 hg7).1
  have HQ : Hid (POST (.returned (.agg D')) (W8.setRow w.heap.size D')) := Lib.hid (by
    have hbw : Below w.heap.size w W8 := hW7.trans (hB8.mono hW7.size)
    have hoth : ∀ j, j ≠ w.heap.size → (W8.setRow w.heap.size D').heap[j]? = W8.heap[j]? := fun j hj => setRow_other _ _ _ _ hj
    refine HPOST.out D' g ds _ hD' ⟨hin.len, hin.capb, fun hp => ?_, fun c hc => (hin.ok c hc).apart (hap c hc) (fun j hj _ => hoth j (by omega)), hin.nil⟩ hco (below_setRow hbw (Nat.le_refl _) D') (by omega) (fun c hc ad had => by have := hap c hc ad had; omega)
    obtain ⟨b', o', hbo, hc⟩ := hin.cells hp
    refine ⟨b', o', hbo, fun i c hi j u hu => ?_⟩
    have h1 := hc i c hi j u hu
    have hbg : b' = g := by cases hbo; rfl
    rw [World.cell?_of_block (w := W8) (w' := W8.setRow w.heap.size D') (hoth b' (by omega))]
    exact h1)
  clear hB8 hin hap hco hD' hg8 hge hB7 hg7 hg6 hW7 hg0 hB6w HW HPOST s6
  go_wp2_with (refine wpList_store_rowTo rfl 26 (.tmp 6) (.tmp 21) rfl rfl w.heap.size D' rfl rfl 26 zeroDel hz8 hinf8 hsz8 hone8 ?_)
  refine bodyPost_ret (v := .agg D') ?_ rfl HQ.out
  exact results_cell_row Tryd.results30 _ _ w.heap.size 26 _ (0, 0) _ rfl (setRow_heap _ _ _ _ _ _ hz8) Tryd.underlying26 rfl hinf8

/-- A row of commands is a slice of commands. -/
theorem CmdRow.slice {w : World} {b : Option Addr} {x : List Int} {capx : Nat} {L : List Core8} {v : Value} {wr : World} (R : CmdRow w b x capx L v wr) : ∃ (cs : List Cmd) (a : Option Addr) (cap : Nat), v = .slice a cs.length cap ∧ CmdsIn wr a cs cap ∧ cores cs = L := by
  obtain ⟨cs, els, S, rfl, hco, hok, hdat⟩ := R
  obtain ⟨a, cap, rfl, hcs⟩ := row_cmds (W := S.w) (base := w.heap.size) (n := cs.length) (v := v) (cs := cs) S.own rfl (fun c hc => by
    obtain ⟨⟨h1, h2, h3, h4⟩, h5, h6, _⟩ := hok c hc
    exact ⟨h1, h2, h3, h4, (S.el _ h6).1, h5⟩)
  exact ⟨cs, a, cap, rfl, hcs, hco⟩
/-- The delta that Make returns. -/
def MakePost (l x : List Int) (block : Int) (w : World) (e : Ending) (w' : World) : Prop :=
  ∃ (D' : Array Value) (g : Nat) (ds : List Cmd), e = .returned (.agg D') ∧ DeltaOf D' l.length x.length (shaL l) (shaL x) (.slice (some ⟨g, 0, none⟩) ds.length ds.length) ∧ CmdsIn w' (some ⟨g, 0, none⟩) ds ds.length ∧ cores ds = makeC l x block ∧ Below w.heap.size w w' ∧ w.heap.size ≤ g ∧ ∀ c ∈ ds, Apart w.heap.size c.a
theorem makeC_data {l x : List Int} {block : Int} : ∀ c ∈ makeC l x block, c.2.2.2.2.length ≤ x.length := fun c hc => by
  rcases (makeC_ok l x block).1 c hc with ⟨-, -, -, -, h, -⟩ | ⟨-, h1, -, -, -, h⟩
  · rw [h]; simp
  · omega
end Go.Proofs.YtdedfjkenbaebaaDoor

/- Make of package patch. -/
namespace Go.Proofs.YtdedfjkenbaebaaDoor
open Go.RowKit
set_option linter.unusedVariables false
set_option linter.unusedSimpArgs false

theorem chain_few {n : Int} : ∀ (T : List (Int × Int)) (lo : Int), (∀ p ∈ T, 1 ≤ p.2) → Chain n lo T → (T.length : Int) ≤ n - lo := by
  intro T
  induction T with
  | nil => intro lo _ h; have : lo = n := h; simp; omega
  | cons p T ih =>
    intro lo h1 h
    obtain ⟨h2, h3⟩ := h
    have := ih _ (fun q hq => h1 q (List.mem_cons_of_mem _ hq)) h3
    have := h1 p List.mem_cons_self
    simp only [List.length_cons]
    omega
theorem makeC_few {l x : List Int} {block : Int} : (makeC l x block).length ≤ x.length := by
  obtain ⟨h1, h2, -⟩ := makeC_ok l x block
  have := chain_few _ _ (fun p hp => by
    obtain ⟨c, hc, rfl⟩ := List.mem_map.1 hp
    simp only
    unfold lenC wlen
    rcases h1 c hc with ⟨e, -, -, h, -⟩ | ⟨e, -, -, -, h, -⟩
    · rw [if_pos e]; exact h
    · rw [if_neg (by omega)]; omega) h2
  rw [List.length_map] at this
  omega

set_option maxRecDepth 100000 in
set_option maxHeartbeats 4000000 in
theorem make8_any (a b : Option Addr) (l x : List Int) (cap capx : Nat) (block : Int) (w : World) (hR : Roots w) (hl : BytesIn w a l cap) (hx : BytesIn w b x capx) (ol : OkB l) (ox : OkB x) (hL : l.length ≤ 1000) (hX : x.length ≤ 1000) :
    Calls Tryd.prog 15 #[.slice a l.length cap, .slice b x.length capx, .int .i64 block] w (MakePost l x block w) := by
  have hz := zero_delta
  obtain ⟨s0, hs0⟩ : ∃ s0 : HeldW w [(w.heap.size, deltaO zeroDel)], w.alloc (deltaO zeroDel) = s0.w := ⟨(HeldW.start w).push _, rfl⟩
  have HF := Lib.hid (finder_any a b l x cap capx block s0.w (hl.below s0.below) (hx.below s0.below) hL hX)
  have HC : Hid (∀ g1 g2 g3 c W, FindBox W g1 g2 g3 a b c l x cap capx block → Calls Tryd.prog 31 #[.slice b x.length capx, .func (.func 52) #[] (findB g1 g2 g3)] W (CmdsMade b x capx (makeC l x block) W)) := Lib.hid fun g1 g2 g3 c W h => commands8_any g1 g2 g3 a b c l x cap capx block W h ol ox hL hX
  have HD : Hid (∀ ca cs ccap W, Below w.heap.size w W → CmdsIn W ca cs ccap → cores cs = makeC l x block → Calls Tryd.prog 30 #[.slice a l.length cap, .slice b x.length capx, .slice ca cs.length ccap] W (WithPost2 l.length x.length (shaL l) (shaL x) cs W)) := Lib.hid fun ca cs ccap W hb h hco => by
    have hlen : cs.length ≤ x.length := by
      have := makeC_few (l := l) (x := x) (block := block)
      rw [← hco] at this
      unfold cores at this
      rw [List.length_map] at this
      exact this
    refine pdescribe_any a b l x cap capx ca cs ccap W (hR.below hb) (hl.below hb) (hx.below hb) h hL hX (by omega) (fun c hc => ?_)
    have := makeC_data (l := l) (x := x) (block := block) c.core (by rw [← hco]; exact List.mem_map_of_mem (f := Cmd.core) hc)
    have e : c.core.2.2.2.2 = c.l := rfl
    rw [e] at this
    omega
  have HPOST : Hid (∀ (D' : Array Value) (g : Nat) (ds : List Cmd) (w' : World), DeltaOf D' l.length x.length (shaL l) (shaL x) (.slice (some ⟨g, 0, none⟩) ds.length ds.length) → CmdsIn w' (some ⟨g, 0, none⟩) ds ds.length → cores ds = makeC l x block → Below w.heap.size w w' → w.heap.size ≤ g → (∀ c ∈ ds, Apart w.heap.size c.a) → MakePost l x block w (.returned (.agg D')) w') := Lib.hid fun D' g ds w' h1 h2 h3 h4 h5 h6 => ⟨D', g, ds, rfl, h1, h2, h3, h4, h5, h6⟩
  have HS := Lib.hid hs0
  generalize MakePost l x block w = POST at HPOST ⊢
  generalize shaL l = dl at *
  generalize shaL x = dx at *
  generalize l.length = LL at *
  generalize x.length = XX at *
  clear hs0 hR hl hx hL hX
  go_enter Tryd.func15, Tryd.ntmps15
  go_wp2_with fail
  rw [HS.out]
  refine HF.out.mono ?_
  rintro e W1 ⟨g1, g2, g3, c, rfl, hbox, hB1⟩
  have hz1 : W1.heap[w.heap.size]? = some (deltaO zeroDel) := heap_below (s0.blocks (w.heap.size, deltaO zeroDel) (by simp)) hB1
  have hw1 : Below w.heap.size w W1 := s0.below.trans (hB1.mono s0.below.size)
  have hcc := HC.out _ _ _ _ _ hbox
  have HW1 := Lib.hid (And.intro hz1 hw1)
  clear hz1 hw1 hB1 hbox HF HC HS s0
  go_wp2_with fail
  refine hcc.mono ?_
  rintro e W2 ⟨v2, rfl, ⟨R⟩⟩
  have hb2 := R.below
  obtain ⟨cs, ca, ccap, rfl, hcs, hco⟩ := R.slice
  have hw2 : Below w.heap.size w W2 := HW1.out.2.trans (hb2.mono HW1.out.2.size)
  have hdd := HD.out _ _ _ _ hw2 hcs hco
  have HW2 := Lib.hid (And.intro (heap_below HW1.out.1 hb2) (And.intro hw2 hco))
  clear hcc hb2 hcs hco hw2 R HW1 HD
  go_wp2_with fail
  refine hdd.mono ?_
  rintro e W8 ⟨D', g, ds, rfl, hD', hin, hco, hB8, hg8, hap⟩
  have hz8 : W8.heap[w.heap.size]? = some (deltaO zeroDel) := heap_below HW2.out.1 hB8
  have hinf8 := infoDelta hD'
  have hone8 := hD'.one rfl
  have hsz8 : zeroDel.size = D'.size := by rw [zeroDel_of.size, hD'.size]
  have hz2 : w.heap.size < W2.heap.size := (Array.getElem?_eq_some_iff.1 HW2.out.1).1
  have HQ : Hid (POST (.returned (.agg D')) (W8.setRow w.heap.size D')) := Lib.hid (by
    have hbw : Below w.heap.size w W8 := HW2.out.2.1.trans (hB8.mono HW2.out.2.1.size)
    have hoth : ∀ j, j ≠ w.heap.size → (W8.setRow w.heap.size D').heap[j]? = W8.heap[j]? := fun j hj => setRow_other _ _ _ _ hj
    refine HPOST.out D' g ds _ hD' ⟨hin.len, hin.capb, fun hp => ?_, fun c hc => (hin.ok c hc).apart (hap c hc) (fun j hj _ => hoth j (by omega)), hin.nil⟩ (hco.trans HW2.out.2.2) (below_setRow hbw (Nat.le_refl _) D') (by omega) (fun c hc ad had => by have := hap c hc ad had; omega)
    obtain ⟨b', o', hbo, hc⟩ := hin.cells hp
    refine ⟨b', o', hbo, fun i c hi j u hu => ?_⟩
    have h1 := hc i c hi j u hu
    have hbg : b' = g := by cases hbo; rfl
    rw [World.cell?_of_block (w := W8) (w' := W8.setRow w.heap.size D') (hoth b' (by omega))]
    exact h1)
  clear hB8 hin hap hco hD' hg8 hz2 hdd HW2 HPOST
  go_wp2_with (refine wpList_store_rowTo rfl 26 (.tmp 6) (.tmp 15) rfl rfl w.heap.size D' rfl rfl 26 zeroDel hz8 hinf8 hsz8 hone8 ?_)
  refine bodyPost_ret (v := .agg D') ?_ rfl HQ.out
  exact results_cell_row Tryd.results15 _ _ w.heap.size 26 _ (0, 0) _ rfl (setRow_heap _ _ _ _ _ _ hz8) Tryd.underlying26 rfl hinf8
end Go.Proofs.YtdedfjkenbaebaaDoor

/- fits and content of package patch. -/
namespace Go.Proofs.YtdedfjkenbaebaaDoor
open Go.RowKit
set_option linter.unusedVariables false
set_option linter.unusedSimpArgs false

set_option maxRecDepth 100000 in
set_option maxHeartbeats 4000000 in
theorem pfits_any (a : Option Addr) (L cap : Nat) (D : Array Value) (o n : Int) (x y : List Int) (ca : Option Addr) (cs : List Cmd) (ccap : Nat) (hD : DeltaOf D o n x y (.slice ca cs.length ccap)) (w : World) (h : CmdsIn w ca cs ccap) (hL : cs.length ≤ 1000000) (ho : I64 o) (hn : I64 n) :
    Calls Tryd.prog 25 #[.slice a L cap, .agg D] w (Gives (.bool (decide (o = (L : Int) ∧ (faultOf o n cs).1 = 0))) w) := by
  obtain ⟨S, hS⟩ := start1 w (deltaO D)
  have hc := dvalid_any D o n x y ca cs ccap hD S.w (h.W S) hL ho hn
  have hinf := infoDelta hD
  have hg : (w.alloc (deltaO D)).heap[w.heap.size]? = some (deltaO D) := heap_new w _ rfl
  have c0 : (w.alloc (deltaO D)).cell? ⟨w.heap.size, 0, none⟩ = some (.int .i64 o) := (cell_of hg 0).trans hD.c0
  have HS := Lib.hid hS
  generalize (faultOf o n cs).1 = F at *
  clear hD h hL ho hn hS
  by_cases he : o = (L : Int)
  · have e1 : (o == (L : Int)) = true := by simpa using he
    have HE := Lib.hid he
    clear he
    go_enter Tryd.func25, Tryd.ntmps25
    go_wp2_with (refine wpList_load_rowG rfl 26 (.tmp 3) rfl (some 11) rfl w.heap.size rfl 26 _ (0, 0) _ hg Tryd.underlying26 rfl hinf ?_)
    rw [HS.out]
    clear hg c0 e1
    refine (HeldW.call hc).mono ?_
    rintro e _ ⟨rfl, s2, rfl⟩
    go_wp2
    go_ret
    exact ⟨by simp [HE.out], s2.below⟩
  · have e1 : (o == (L : Int)) = false := by simpa using he
    have HE := Lib.hid he
    clear he
    go_enter Tryd.func25, Tryd.ntmps25
    go_wp2
    go_ret
    exact ⟨by simp [HE.out], by rw [HS.out]; exact S.below⟩


set_option maxRecDepth 100000 in
set_option maxHeartbeats 4000000 in
theorem content_lit (a : Option Addr) (L cap : Nat) (t f n : Int) (m : List Int) (A : Option Addr) (C : Nat) (w : World) (h : BytesIn w A m C) :
    Calls Tryd.prog 26 #[.slice a L cap, cmdV 2 t f n (.slice A m.length C)] w (Gives (.slice A m.length C) w) := by
  obtain ⟨S, hS⟩ := start1 w (cmdO 2 t f n (.slice A m.length C))
  have hc := msource_lit t f n A m.length C S.w
  obtain ⟨c0, c1, c2, c3, c4⟩ := cmd_cells (heap_new w (cmdO 2 t f n (.slice A m.length C)) rfl)
  have HS := Lib.hid hS
  have HB := Lib.hid h
  obtain ⟨POST, hP⟩ : ∃ P, P = Gives (.slice A m.length C) w := ⟨_, rfl⟩
  have HQ : Hid (∀ s : HeldW w [(w.heap.size, cmdO 2 t f n (.slice A m.length C))], ∀ W, Below s.w.heap.size s.w W → POST (.returned (.slice A m.length C)) W) := Lib.hid fun s W hb => by
    rw [hP]
    exact ⟨rfl, s.below.trans (hb.mono s.below.size)⟩
  rw [← hP]
  generalize m.length = M at *
  clear hP hS h
  go_enter Tryd.func26, Tryd.ntmps26
  go_wp2_with fail
  rw [HS.out]
  clear c0 c1 c2 c3 c4
  refine (HeldW.call hc).mono ?_
  rintro e _ ⟨rfl, s2, rfl⟩
  obtain ⟨c0, c1, c2, c3, c4⟩ := cmd_later (s2.blocks (w.heap.size, cmdO 2 t f n (.slice A M C)) (by simp)) (s2.w.alloc (extO (0, 0))) (by exact (Below.refl _ _).alloc (Nat.le_refl _) _)
  have HQ2 := Lib.hid (HQ.out s2 (s2.w.alloc (extO (0, 0))) ((Below.refl _ _).alloc (Nat.le_refl _) _))
  clear HQ hc HS HB
  go_wp2
  exact HQ2.out

set_option maxRecDepth 100000 in
set_option maxHeartbeats 4000000 in
theorem content_copy (a : Option Addr) (LL cap : Nat) (t : Int) (f n : Nat) (A Q : Option Addr) (C m : Nat) (w : World) (hlc : LL ≤ cap) (hlcap : cap ≤ 9223372036854775807) (hfn : f + n ≤ LL)
    (e3 : ∀ W, (Instr.slice 22 (.slice (slA8 a cap f) (LL - f) (cap - f)) none (some (.int .i64 (n : Int))) none).run Tryd.prog W = .ok (.slice Q n (cap - f)) W) :
    Calls Tryd.prog 26 #[.slice a LL cap, cmdV 1 t f n (.slice A m C)] w (Gives (.slice Q n (cap - f)) w) := by
  obtain ⟨S, hS⟩ := start1 w (cmdO 1 t f n (.slice A m C))
  have hc := msource_copy t f n A m C S.w
  obtain ⟨c0, c1, c2, c3, c4⟩ := cmd_cells (heap_new w (cmdO 1 t f n (.slice A m C)) rfl)
  have HS := Lib.hid hS
  have e2 := fun W => cut8_l (a := a) f (show f ≤ LL by omega) hlc W
  obtain ⟨POST, hP⟩ : ∃ P, P = Gives (.slice Q n (cap - f)) w := ⟨_, rfl⟩
  have HQ : Hid (∀ W, Below w.heap.size w W → POST (.returned (.slice Q n (cap - f))) W) := Lib.hid fun W hb => by
    rw [hP]
    exact ⟨rfl, hb⟩
  rw [← hP]
  clear hP hS
  go_enter Tryd.func26, Tryd.ntmps26
  go_wp2_with fail
  rw [HS.out]
  clear c0 c1 c2 c3 c4
  refine (HeldW.call hc).mono ?_
  rintro e _ ⟨rfl, s2, rfl⟩
  obtain ⟨B, s3, hB, hB0, hlt, hS3⟩ := s2.more1 (extO ((f : Int), (n : Int)))
  obtain ⟨d0, d1⟩ := held_extA s3 B ((f : Int), (n : Int)) (by simp)
  have HS3 := Lib.hid (And.intro hB hS3)
  clear hc HS hB hS3 hlt S
  go_wp2_with fail
  rw [HS3.out.2, ← HS3.out.1]
  refine wp_region_class w [(B, extO ((f : Int), (n : Int))), (w.heap.size, cmdO 1 t f n (.slice A m C))] (by kernel_rfl) (by kernel_rfl) s3.below s3.blocks (fun hne => ?_)
  clear HS3
  repeat (go_big_quiet_step (fail))
  refine wpQuiet_nil ?_
  rintro _ ⟨s4, rfl⟩
  clear hne d0 d1 e2 e3
  go_wp2
  exact HQ.out s4.w s4.below
/-- The bytes that a command of a valid delta writes: where they lie is known ahead of the call. -/
theorem content_any {o n : Int} {l : List Int} {a : Option Addr} {cap : Nat} {c : Cmd} {w : World} (hl : BytesIn w a l cap) (ho : (l.length : Int) = o) (hs : single o n c = 0) (hc : CmdOK w c) :
    ∃ A C, BytesIn w A (c.cont l) C ∧ ∀ W, Below w.heap.size w W → Calls Tryd.prog 26 #[.slice a l.length cap, cmdV c.k c.t c.f c.n (.slice c.a c.l.length c.cap)] W (Gives (.slice A (c.cont l).length C) W) := by
  obtain ⟨h1, h2, h3⟩ := single_ok hs
  have hk : c.k = 1 ∨ c.k = 2 := (cont_len ho hs).2
  rcases hk with hk | hk
  · obtain ⟨q1, q2⟩ := h3 hk
    have hw : c.w = c.n := by unfold Cmd.w wlen; rw [if_pos hk]
    obtain ⟨f, hf⟩ : ∃ f : Nat, c.f = f := ⟨c.f.toNat, by omega⟩
    obtain ⟨n', hn⟩ : ∃ n' : Nat, c.n = n' := ⟨c.n.toNat, by omega⟩
    have hcont : c.cont l = (l.drop f).take n' := by
      unfold Cmd.cont contC Cmd.core
      simp only
      rw [if_pos hk, hf, hn, Int.toNat_natCast, Int.toNat_natCast]
    have hfr := hl.from8 f (by omega)
    obtain ⟨Q, e3, hQ⟩ := cutb_h hfr n' (by rw [List.length_drop]; omega)
    rw [List.length_drop] at e3
    have hlen : (c.cont l).length = n' := by rw [hcont]; simp; omega
    refine ⟨Q, cap - f, by rw [hcont]; exact hQ, fun W hb => ?_⟩
    rw [hk, hf, hn, hlen]
    exact content_copy a l.length cap c.t f n' c.a Q c.cap c.l.length W hl.len hl.capb (by omega) e3
  · have hcont : c.cont l = c.l := by
      unfold Cmd.cont contC Cmd.core
      simp only
      rw [if_neg (by omega)]
    refine ⟨c.a, c.cap, by rw [hcont]; exact hc.b, fun W hb => ?_⟩
    rw [hk, hcont]
    refine (content_lit a l.length cap c.t c.f c.n c.l c.a c.cap W (hc.b.below hb)).mono ?_
    exact fun e w' h => h

end Go.Proofs.YtdedfjkenbaebaaDoor

/- Apply of package patch. -/
namespace Go.Proofs.YtdedfjkenbaebaaDoor
open Go.RowKit
set_option linter.unusedVariables false
set_option linter.unusedSimpArgs false

theorem make_big (k : Nat) (hk : k ≤ 1000000) (w : World) : (Instr.makeSlice 22 (.int .i64 (k : Int)) (.int .i64 (k : Int))).run Tryd.prog w = .ok (.slice (some ⟨w.heap.size, 0, none⟩) k k) (w.alloc (.cells (byteA (List.replicate k 0)) 5)) := by
  have hi : ∃ i, Tryd.prog.info? 5 = some i ∧ i.zero = some (.int .u8 0) ∧ i.size = 1 ∧ i.bytes = 1 := by
    have h : (Tryd.prog.info? 5).map (fun i => (i.zero, i.size, i.bytes)) = some (some (.int .u8 0), 1, 1) := by kernel_rfl
    obtain ⟨i, hi, he⟩ := Option.map_eq_some_iff.1 h
    simp only [Prod.mk.injEq] at he
    exact ⟨i, hi, he.1, he.2.1, he.2.2⟩
  obtain ⟨i, hi, hz, hs, hb⟩ := hi
  rw [run_make w 22 5 i _ Tryd.underlying22 hi hz .i64 .i64 k k (by omega) (by omega) (by rw [hb]; omega) (by omega)]
  rw [hs, Int.toNat_natCast, made_zero]

theorem splice8_in {xs m : List Int} {T i : Nat} (h : T + m.length ≤ xs.length) (hi : i < m.length) : (splice xs T m)[T + i]? = m[i]? := by
  unfold splice
  have h1 : (xs.take T).length = T := by simp; omega
  rw [List.getElem?_append_right (by omega), h1, show T + i - T = i by omega, List.getElem?_append_left hi]
theorem splice8_out {xs m : List Int} {T j : Nat} (h : T + m.length ≤ xs.length) (hj : j < T ∨ T + m.length ≤ j) : (splice xs T m)[j]? = xs[j]? := by
  unfold splice
  have h1 : (xs.take T).length = T := by simp; omega
  rcases hj with hj | hj
  · rw [List.getElem?_append_left (by omega), List.getElem?_take, if_pos hj]
  · rw [List.getElem?_append_right (by omega), h1, List.getElem?_append_right (by omega), List.getElem?_drop]
    congr 1
    omega
theorem splice8_map {f : Int → Value} (xs m : List Int) (T : Nat) : (splice xs T m).map f = splice (xs.map f) T (m.map f) := by
  unfold splice
  simp [List.map_take, List.map_drop]
theorem splice8_len {xs m : List Int} {T : Nat} (h : T + m.length ≤ xs.length) : (splice xs T m).length = xs.length := length_splice xs T m h

/-- The commands so far have written their bytes. -/
def Wrote (l : List Int) (n : Nat) (cs : List Cmd) (k : Nat) (xs : List Int) : Prop := xs.length = n ∧ ∀ d ∈ cs.take k, ∀ i : Nat, (i : Int) < d.w → xs[d.t.toNat + i]? = (d.cont l)[i]?
theorem Wrote.next {o : Int} {n k : Nat} {l xs : List Int} {cs : List Cmd} {c : Cmd} (ho : (l.length : Int) = o) (hv : ValidD o n cs) (hc : cs[k]? = some c) (h : Wrote l n cs k xs) :
    Wrote l n cs (k + 1) (splice xs c.t.toNat (c.cont l)) := by
  have hm := List.mem_of_getElem? hc
  have hs := hv.all c hm
  have hw := (cont_len ho hs).1
  have hb := (single_ok hs).2.1
  have hfit : c.t.toNat + (c.cont l).length ≤ xs.length := by have := h.1; omega
  refine ⟨by rw [splice8_len hfit]; exact h.1, fun d hd i hi => ?_⟩
  rw [List.take_add_one, hc] at hd
  rcases List.mem_append.1 hd with hd | hd
  · obtain ⟨j, hj⟩ := List.getElem?_of_mem hd
    have hjk : j < k := by
      have := (List.getElem?_eq_some_iff.1 hj).1
      rw [List.length_take] at this
      omega
    rw [List.getElem?_take, if_pos hjk] at hj
    rw [splice8_out hfit]
    · exact h.2 d hd i hi
    · have hdb := (single_ok (hv.all d (List.mem_of_getElem? hj))).2.1
      refine Classical.byContradiction fun hno => ?_
      have h1 : d.has ((d.t.toNat + i : Nat) : Int) := by unfold Cmd.has; omega
      have h2 : c.has ((d.t.toNat + i : Nat) : Int) := by unfold Cmd.has; omega
      have := hv.one hj hc h1 h2
      omega
  · obtain rfl : d = c := by simpa using hd
    exact splice8_in hfit (by omega)
theorem Wrote.done {o : Int} {n : Nat} {l xs : List Int} {cs : List Cmd} (ho : (l.length : Int) = o) (hv : ValidD o n cs) (h : Wrote l n cs cs.length xs) : xs = newF l n cs :=
  newF_eq ho hv h.1 (fun c hc i hi => h.2 c (by rw [List.take_length]; exact hc) i hi)

/-- A new slice of bytes in its own block. -/
def MakesB (xs : List Int) (w : World) (e : Ending) (w' : World) : Prop := ∃ g, e = .returned (.slice (some ⟨g, 0, none⟩) xs.length xs.length) ∧ w.heap.size ≤ g ∧ w'.heap[g]? = some (.cells (byteA xs) 5 (0, 0)) ∧ Below w.heap.size w w'

set_option maxRecDepth 100000 in
set_option maxHeartbeats 4000000 in
theorem papply_no (a : Option Addr) (L cap : Nat) (D : Array Value) (o n : Int) (x y : List Int) (ca : Option Addr) (cs : List Cmd) (ccap : Nat) (hD : DeltaOf D o n x y (.slice ca cs.length ccap)) (w : World) (h : CmdsIn w ca cs ccap) (hL : cs.length ≤ 1000000) (ho : I64 o) (hn : I64 n) (hno : ¬ (o = (L : Int) ∧ ValidD o n cs)) :
    Calls Tryd.prog 10 #[.slice a L cap, .agg D] w (Gives (.slice none 0 0) w) := by
  obtain ⟨S, hS⟩ := start1 w (deltaO D)
  have hc := pfits_any a L cap D o n x y ca cs ccap hD S.w (h.W S) hL ho hn
  have hf : decide (o = (L : Int) ∧ (faultOf o n cs).1 = 0) = false := decide_eq_false fun hh => hno ⟨hh.1, faultOf_zero.1 hh.2⟩
  rw [hf] at hc
  have hinf := infoDelta hD
  have hg : (w.alloc (deltaO D)).heap[w.heap.size]? = some (deltaO D) := heap_new w _ rfl
  have HS := Lib.hid hS
  clear hD h hL ho hn hS hno hf
  go_enter Tryd.func10, Tryd.ntmps10
  go_wp2_with (refine wpList_load_row rfl 26 (.tmp 3) rfl w.heap.size rfl 26 _ (0, 0) _ hg Tryd.underlying26 rfl hinf ?_)
  rw [HS.out]
  clear hg
  refine (HeldW.call hc).mono ?_
  rintro e _ ⟨rfl, s2, rfl⟩
  go_wp2
  go_ret
  exact ⟨rfl, s2.below⟩

set_option maxRecDepth 100000 in
set_option maxHeartbeats 4000000 in
theorem papply_yes (l : List Int) (a : Option Addr) (cap : Nat) (D : Array Value) (o : Int) (n : Nat) (x y : List Int) (ca : Option Addr) (cs : List Cmd) (ccap : Nat) (hD : DeltaOf D o n x y (.slice ca cs.length ccap)) (w : World) (hl : BytesIn w a l cap) (h : CmdsIn w ca cs ccap) (hL : cs.length ≤ 1000000) (hn : n ≤ 1000000) (ho : (l.length : Int) = o) (hv : ValidD o n cs) :
    Calls Tryd.prog 10 #[.slice a l.length cap, .agg D] w (MakesB (newF l n cs) w) := by
  have hI : I64 o ∧ I64 (n : Int) := by
    have := hv.lens
    unfold LensBad at this
    unfold I64
    omega
  obtain ⟨S, hS⟩ := start1 w (deltaO D)
  have hc := pfits_any a l.length cap D o n x y ca cs ccap hD S.w (h.W S) hL hI.1 hI.2
  have hf : decide (o = (l.length : Int) ∧ (faultOf o n cs).1 = 0) = true := decide_eq_true ⟨ho.symm, faultOf_zero.2 hv⟩
  rw [hf] at hc
  have hinf := infoDelta hD
  have hg : (w.alloc (deltaO D)).heap[w.heap.size]? = some (deltaO D) := heap_new w _ rfl
  have hmk := fun W => make_big n hn W
  have HS := Lib.hid hS
  have HD := Lib.hid hD
  have HC := Lib.hid h
  have HL := Lib.hid hl
  have HV := Lib.hid (And.intro ho hv)
  obtain ⟨POST, hP⟩ : ∃ P, P = MakesB (newF l n cs) w := ⟨_, rfl⟩
  have HPOST : Hid (∀ g xs W, xs = newF l n cs → w.heap.size ≤ g → W.heap[g]? = some (.cells (byteA xs) 5 (0, 0)) → Below w.heap.size w W → POST (.returned (.slice (some ⟨g, 0, none⟩) n n)) W) := Lib.hid fun g xs W hxs h1 h2 h3 => by
    rw [hP, ← hxs]
    have hlen : xs.length = n := by rw [hxs]; exact newF_length _ _ _
    exact ⟨g, by rw [hlen], h1, h2, h3⟩
  rw [← hP]
  obtain ⟨LL, hLL⟩ : ∃ m, m = l.length := ⟨_, rfl⟩
  have HLL := Lib.hid hLL
  obtain ⟨CC, hCC⟩ : ∃ m, m = cs.length := ⟨_, rfl⟩
  have HCC := Lib.hid hCC
  have hccap := h.capb
  have hCcap : CC ≤ ccap := by rw [hCC]; exact h.len
  have hCb : CC ≤ 1000000 := by rw [hCC]; exact hL
  rw [← hLL] at hc ⊢
  rw [← hCC] at HD
  clear hD h hL hl ho hv hI hS hf hP hLL hCC
  go_enter Tryd.func10, Tryd.ntmps10
  go_wp2_with (refine wpList_load_row rfl 26 (.tmp 3) rfl w.heap.size rfl 26 _ (0, 0) _ hg Tryd.underlying26 rfl hinf ?_)
  rw [HS.out]
  clear hg
  refine (HeldW.call hc).mono ?_
  rintro e _ ⟨rfl, s1, rfl⟩
  obtain ⟨g, s2, hgs, hgw, hlt2, hS2⟩ := s1.more1 (.cells (byteA (List.replicate n 0)) 5 (0, 0))
  have hgw2 : w.heap.size < g := hlt2 (w.heap.size, deltaO D) (by simp)
  obtain ⟨X, hX⟩ : ∃ X : HeldX w g [(g, .cells (byteA (List.replicate n 0)) 5 (0, 0)), (w.heap.size, deltaO D)], s2.w = X.w := ⟨⟨s2.w, But.of_below s2.below, s2.blocks⟩, rfl⟩
  have HX := Lib.hid (show s1.w.alloc (.cells (byteA (List.replicate n 0)) 5 (0, 0)) = X.w by rw [hS2, hX])
  have hgs' : s1.w.heap.size = g := hgs.symm
  have c1 : s1.w.cell? ⟨w.heap.size, 1, none⟩ = some (.int .i64 (n : Int)) := (cell_of (s1.blocks (w.heap.size, deltaO D) (by simp)) 1).trans HD.out.c1
  have c66 : (s1.w.alloc (.cells (byteA (List.replicate n 0)) 5)).cell? ⟨w.heap.size, 66, none⟩ = some (.slice ca CC ccap) := by
    rw [HX.out]
    exact (cell_of (X.blocks (w.heap.size, deltaO D) (by simp)) 66).trans HD.out.c66
  clear hlt2 hS2 hX hgs s2 hc HS
  have HGS := Lib.hid hgs'
  clear hgs'
  go_wp2_with fail
  rw [HX.out, HGS.out]
  clear HX HGS c1 c66 s1 hmk
  go_loopw [18] (fun v wr => ∃ (k : Nat) (xs : List Int), k ≤ CC ∧ v = .int .i64 (k : Int) ∧ Hid (Wrote l n cs k xs) ∧ ∃ s : HeldX w g [(g, .cells (byteA xs) 5 (0, 0)), (w.heap.size, deltaO D)], wr = s.w) (fun v _ => CC - (intOf v).toNat)
  case atStart => exact ⟨0, List.replicate n 0, by omega, rfl, Lib.hid ⟨by simp, fun d hd => by simp at hd⟩, X, rfl⟩
  case round =>
    clear X
    obtain ⟨k, xs, hk, rfl, hwr, s, rfl⟩ := hrel
    have hbw : Below w.heap.size w s.w := s.but.below (by omega)
    by_cases hlt : k < CC
    · obtain ⟨c, hc⟩ : ∃ c, cs[k]? = some c := ⟨_, List.getElem?_eq_getElem (by rw [← HCC.out]; exact hlt)⟩
      have hcin := HC.out.below hbw
      obtain ⟨b, oo, rfl, x0, x1, x2, x3, x4⟩ := hcin.at hc
      have hm := List.mem_of_getElem? hc
      have hs0 := HV.out.2.all c hm
      have hwid := (cont_len HV.out.1 hs0).1
      have hsb := (single_ok hs0).2.1
      obtain ⟨A, C, hBA, hcall⟩ := content_any HL.out HV.out.1 hs0 (HC.out.ok c hm)
      rw [← HLL.out] at hcall
      have hnext := Wrote.next HV.out.1 HV.out.2 hc hwr.out
      obtain ⟨T, hT⟩ : ∃ T : Nat, c.t = T := ⟨c.t.toNat, by omega⟩
      rw [hT, Int.toNat_natCast] at hnext
      obtain ⟨m, hmm⟩ : ∃ m, m = c.cont l := ⟨_, rfl⟩
      rw [← hmm] at hwid hBA hcall hnext
      have HN := Lib.hid hnext
      have HCALL := Lib.hid hcall
      have HBA := Lib.hid hBA
      have hfit : T + m.length ≤ n := by omega
      have hmpos : 1 ≤ m.length := by omega
      rw [hT] at x1
      have e25 : ∀ W, (Instr.slice 22 (.slice (some ⟨g, 0, none⟩) n n) (some (.int .i64 (T : Int))) none none).run Tryd.prog W = .ok (.slice (some ⟨g, T, none⟩) (n - T) (n - T)) W := fun W => by
        rw [cut8_l T (by omega) (Nat.le_refl _) W]
        unfold slA8
        rw [if_neg (by omega)]
        simp [Addr.add_mid]
      have HXL := Lib.hid hwr.out.1
      clear hcin hm hs0 hwid hsb hBA hcall hnext hc
      generalize c.k = ck at *
      generalize c.f = cf at *
      generalize c.n = cn at *
      generalize c.a = cda at *
      generalize c.cap = cdc at *
      generalize c.l.length = cdl at *
      generalize c.t = ct at *
      subst hT
      go_wp2_with fail
      obtain ⟨B7, s7, hB7, hs7⟩ : ∃ (B7 : Nat) (s7 : HeldX w g [(g, .cells (byteA xs) 5 (0, 0)), (B7, cmdO ck T cf cn (.slice cda cdl cdc)), (w.heap.size, deltaO D)]), B7 = s.w.heap.size ∧ s.w.alloc (cmdO ck T cf cn (.slice cda cdl cdc)) = s7.w := ⟨_, (s.push (cmdO ck T cf cn (.slice cda cdl cdc))).sub (fun p hp => by
        simp only [List.mem_cons, List.not_mem_nil, or_false] at hp ⊢
        rcases hp with rfl | rfl | rfl <;> simp), rfl, rfl⟩
      have hgB : g < B7 := by rw [hB7]; exact (Array.getElem?_eq_some_iff.1 (s.blocks (g, .cells (byteA xs) 5 (0, 0)) (by simp))).1
      have hg0 : w.heap.size < g := hgw2
      rw [hs7, ← hB7]
      have d0 := fun s : HeldX w g [(g, .cells (byteA xs) 5 (0, 0)), (B7, cmdO ck T cf cn (.slice cda cdl cdc)), (w.heap.size, deltaO D)] => (cmd_cells (s.blocks (B7, cmdO ck T cf cn (.slice cda cdl cdc)) (by simp))).1
      have d1 := fun s : HeldX w g [(g, .cells (byteA xs) 5 (0, 0)), (B7, cmdO ck T cf cn (.slice cda cdl cdc)), (w.heap.size, deltaO D)] => (cmd_cells (s.blocks (B7, cmdO ck T cf cn (.slice cda cdl cdc)) (by simp))).2.1
      have d2 := fun s : HeldX w g [(g, .cells (byteA xs) 5 (0, 0)), (B7, cmdO ck T cf cn (.slice cda cdl cdc)), (w.heap.size, deltaO D)] => (cmd_cells (s.blocks (B7, cmdO ck T cf cn (.slice cda cdl cdc)) (by simp))).2.2.1
      have d3 := fun s : HeldX w g [(g, .cells (byteA xs) 5 (0, 0)), (B7, cmdO ck T cf cn (.slice cda cdl cdc)), (w.heap.size, deltaO D)] => (cmd_cells (s.blocks (B7, cmdO ck T cf cn (.slice cda cdl cdc)) (by simp))).2.2.2.1
      have d4 := fun s : HeldX w g [(g, .cells (byteA xs) 5 (0, 0)), (B7, cmdO ck T cf cn (.slice cda cdl cdc)), (w.heap.size, deltaO D)] => (cmd_cells (s.blocks (B7, cmdO ck T cf cn (.slice cda cdl cdc)) (by simp))).2.2.2.2
      clear hs7 hB7 x0 x1 x2 x3 x4
      refine wp_region_X_tail 7 s7 (by kernel_rfl) (by kernel_rfl) (fun hne => ?_)
      simp only [List.take_succ_cons, List.take_zero, List.drop_succ_cons, List.drop_zero]
      repeat (go_big_quiet_step ((go_at_call 26; exact HeldX.call (HCALL.out _ (But.below (HeldX.but _) (by omega))))))
      refine wpQuiet_nil ?_
      rintro _ ⟨s8, rfl⟩
      clear hne d0 d1 d2 d3 d4 e25 s7
      have hcn : (m.map (Value.int .u8)).length = Nat.min m.length (n - T) := by rw [List.length_map]; exact (Nat.min_eq_left (by omega)).symm
      have hft : T + (m.map (Value.int .u8)).length ≤ (xs.map (Value.int .u8)).length := by rw [List.length_map, List.length_map, HXL.out]; exact hfit
      have hps : 0 < (m.map (Value.int .u8)).length → some (⟨g, T, none⟩ : Addr) = some ⟨g, T, none⟩ ∧ ∃ ad, A = some ad ∧ ∀ j v, (m.map (Value.int .u8))[j]? = some v → s8.w.cell? (ad.add j) = some v := fun hp => by
        rw [List.length_map] at hp
        obtain ⟨b', o', rfl, hc⟩ := (HBA.out.below (s8.but.below (show w.heap.size ≤ g by omega))).cells hp
        refine ⟨rfl, _, rfl, fun j v hv => ?_⟩
        have hj : j < m.length := by have := (List.getElem?_eq_some_iff.1 hv).1; rwa [List.length_map] at this
        rw [Addr.add_mid, hc j hj]
        rw [List.getElem?_map, List.getElem?_eq_getElem hj] at hv
        rw [List.getElem?_eq_getElem hj]
        exact hv
      have hne8 : ∀ p ∈ [(B7, cmdO ck T cf cn (.slice cda cdl cdc)), (w.heap.size, deltaO D)], p.1 ≠ g := all2 (Q := fun p : Nat × Obj => p.1 ≠ g) (by simp only; omega) (by simp only; omega)
      clear HBA HCALL
      go_wp2_with (refine wpList_copy_X (P := Tryd.prog) T (xs.map (Value.int .u8)) 5 s8 (.inl rfl) hne8 (.tmp 25) (.tmp 28) 22 22 rfl rfl 5 Tryd.underlying22 (by kernel_rfl) (some ⟨g, T, none⟩) A (n - T) (n - T) m.length C rfl rfl (m.map (Value.int .u8)) hcn _ rfl hps hft (one_bytes _) ?_; intro s9)
      obtain ⟨s10, h10⟩ : ∃ s10 : HeldX w g [(g, .cells (byteA (splice xs T m)) 5 (0, 0)), (w.heap.size, deltaO D)], s9.w = s10.w := ⟨⟨s9.w, s9.but, fun p hp => by
        simp only [List.mem_cons, List.not_mem_nil, or_false] at hp
        rcases hp with rfl | rfl
        · have := s9.blocks (g, .cells (splice (xs.map (Value.int .u8)) T (m.map (Value.int .u8))).toArray 5 (0, 0)) (by simp)
          rw [this]
          unfold byteA
          rw [splice8_map]
        · exact s9.blocks (w.heap.size, deltaO D) (by simp)⟩, rfl⟩
      rw [h10]
      clear hcn hft hps hne8 h10 s9 s8
      go_wp2
      go_roundw
      case rel => exact ⟨k + 1, splice xs T m, by omega, by go_num, HN, s10, rfl⟩
      case measure => simp [intOf]; omega
    · obtain rfl : k = CC := by omega
      have hxs : xs = newF l n cs := Wrote.done HV.out.1 HV.out.2 (by rw [← HCC.out]; exact hwr.out)
      have HQ := Lib.hid (HPOST.out g xs s.w hxs hgw (s.blocks (g, .cells (byteA xs) 5 (0, 0)) (by simp)) hbw)
      clear hxs hbw
      go_wp2
      exact HQ.out
end Go.Proofs.YtdedfjkenbaebaaDoor
