/- ShaParts returns true for all lists of bytes, and changes nothing that was there. -/
import Derived.Test.YtnpcocjjmajifaaDoor02LawNil
namespace Go.Proofs.YtnpcocjjmajifaaDoor
open Go.RowKit
set_option linter.unusedVariables false

/-- A slice of slices of bytes that came in. -/
structure PartsIn (w : World) (pa : Option Addr) (ls : List (List Int)) : Prop where
  len : ls.length ≤ 9223372036854775807
  cells : 0 < ls.length → ∃ b o, pa = some ⟨b, o, none⟩ ∧ ∀ i, i < ls.length → ∃ a cap, w.cell? ⟨b, o + i, none⟩ = some (.slice a (partOf ls i).length cap) ∧ BytesIn w a (partOf ls i) cap
theorem PartsIn.at {w : World} {pa : Option Addr} {ls : List (List Int)} (h : PartsIn w pa ls) {g : Nat} (hg : w.heap.size ≤ g) : PartsAt w g pa ls := fun hp => by
  obtain ⟨b, o, rfl, hc⟩ := h.cells hp
  refine ⟨b, o, rfl, ?_, fun i hi => ?_⟩
  · obtain ⟨a, cap, h1, _⟩ := hc 0 hp
    have := World.block_lt_of_cell? w _ h1
    simp only at this
    omega
  · obtain ⟨a, cap, h1, h2⟩ := hc i hi
    exact ⟨a, cap, h1, h2.len, h2.capb, h2.src hg⟩

/-- An owned slice, its block listed. -/
theorem OwnW.held {w : World} {e : TypeId} {v : Value} {xs : List Value} (s : OwnW w e v xs) (n : Nat) (hn : xs.length = n) : ∃ (a : Option Addr) (cap : Nat) (bsx : List (Nat × Obj)), v = .slice a n cap ∧ n ≤ cap ∧ cap ≤ 9223372036854775807 ∧
    Hid (0 < n → ∃ (g : Nat) (cur : Array Value), a = some ⟨g, 0, none⟩ ∧ w.heap.size ≤ g ∧ bsx = [(g, .cells cur e (0, 0))] ∧ ∀ (j : Nat) (u : Value), xs[j]? = some u → cur[j]? = some u) ∧ ∃ s3 : HeldW w bsx, s.w = s3.w := by
  obtain ⟨a, cap, hv, h1, h2, hrow⟩ := s.view n hn
  by_cases h : 0 < n
  · obtain ⟨g, cur, ha, hg, hb, hc⟩ := hrow.out h
    exact ⟨a, cap, [(g, .cells cur e (0, 0))], hv, h1, h2, fun _ => ⟨g, cur, ha, hg, rfl, hc⟩, ⟨s.w, s.below, all1 hb⟩, rfl⟩
  · exact ⟨a, cap, [], hv, h1, h2, fun h' => absurd h' h, ⟨s.w, s.below, by simp⟩, rfl⟩

theorem load_arr (D : List Int) (hD : D.length = 32) {w : World} {g : Nat} (hb : w.heap[g]? = some (.cells (byteA D) 24 (0, 0))) : (Instr.loadAt 24 (.pointer (some ⟨g, 0, none⟩))).run Tryd.prog w = .ok (.agg (byteA D)) w := by
  simp only [Instr.loadAt, Instr.sureAddr, Sem.run_bind, Sem.run_pure, Result.andThen_ok]
  exact run_loadVar_row w g 24 24 (byteA D) (0, 0) _ hb Tryd.underlying24 rfl (by rw [byteA_size, hD]; kernel_rfl)

/-- A load that yields the same value in every world of a class goes as that value. -/
theorem quiet_load {P : Program} {ops : Array Oper} {C : World → Prop} {Q : Act → Prop} {a : Act} {rest : List Oper} {dst : Option Tmp} {type : TypeId} {pos : String} {after : Array Edge} {guard : Option (Nat × Bool)} (ty : TypeId) (x : Operand) (v : Value) (w : World) (hw : C w)
    (hl : ∀ w, C w → (Instr.loadAt ty (a.eval x)).run P w = .ok v w)
    (h : wpQuiet P ops C Q (⟨dst, .assign (.const v), type, pos, after, guard⟩ :: rest) a) : wpQuiet P ops C Q (⟨dst, .load ty x, type, pos, after, guard⟩ :: rest) a := by
  unfold wpQuiet at h ⊢
  by_cases hg : Region.wanted ⟨dst, .load ty x, type, pos, after, guard⟩ (yielded ops a.tmps) = true
  · rw [if_pos hg]
    rw [if_pos (show Region.wanted ⟨dst, .assign (.const v), type, pos, after, guard⟩ (yielded ops a.tmps) = true from hg)] at h
    obtain ⟨u, h1, h2⟩ := h
    have h3 := h1 w hw
    have hu : v = u := by
      unfold Oper.quietAt execOp at h3
      simp [Oper.quietUpon, Act.eval] at h3
      exact h3
    subst hu
    exact ⟨v, fun w' hw' => by
      unfold Oper.quietAt execOp
      simp only [Sem.run_bind, hl w' hw', Result.andThen_ok, Sem.run_pure, Oper.quietUpon]
      exact ⟨trivial, trivial⟩, h2⟩
  · rw [if_neg hg]
    rw [if_neg (show ¬ Region.wanted ⟨dst, .assign (.const v), type, pos, after, guard⟩ (yielded ops a.tmps) = true from hg)] at h
    exact h

theorem parts_big (pa : Option Addr) (ls : List (List Int)) (pcap : Nat) (w : World) (hR : Roots w) (hbig : 30 < ls.length) (hmax : ls.length ≤ 9223372036854775807) : Calls Tryd.prog 5 #[.slice pa ls.length pcap] w (Gives (.bool true) w) := by
  have ha := alive_any w hR
  clear hR
  go_enter Tryd.func5, Tryd.ntmps5
  go_wp2_with fail
  refine (HeldW.call (s := HeldW.start w) ha).mono ?_
  rintro e _ ⟨rfl, s1, rfl⟩
  clear ha
  go_wp2
  go_ret
  exact ⟨rfl, s1.below⟩

set_option maxRecDepth 100000 in
set_option maxHeartbeats 16000000 in
theorem parts_small (pa : Option Addr) (ls : List (List Int)) (pcap : Nat) (w : World) (hR : Roots w) (hp : PartsIn w pa ls) (hsmall : ls.length ≤ 30) : Calls Tryd.prog 5 #[.slice pa ls.length pcap] w (Gives (.bool true) w) := by
  have HR := Lib.hid hR
  have HP := Lib.hid hp
  obtain ⟨E⟩ := elem_of (P := Tryd.prog) (t := 22) (e := 5) (z := .int .u8 0) (n := 1) Tryd.underlying22 (by kernel_rfl) rfl (by omega)
  have HF := Lib.hid (show ∀ k, k ≤ ls.length → (∀ j, j < k → (partOf ls j).length ≤ 200) → (ls.take k).flatten.length ≤ 200 * k from fun k => by
    induction k with
    | zero => intro _ _; simp
    | succ k ih =>
      intro hk h
      rw [take_flat ls (by omega), List.length_append]
      have h1 := ih (by omega) (fun j hj => h j (by omega))
      have h2 := h k (by omega)
      omega)
  clear hR hp
  go_enter Tryd.func5, Tryd.ntmps5
  go_wp2
  go_loopw [3, 5, 18] (fun t _ i wr => ∃ k : Nat, k ≤ ls.length ∧ i = .int .i64 k ∧ Hid (∀ j, j < k → (partOf ls j).length ≤ 200) ∧ ∃ s : OwnW w 5 t ((ls.take k).flatten.map (Value.int .u8)), wr = s.w) (fun _ _ i _ => ls.length - (intOf i).toNat)
  case atStart => exact ⟨0, by omega, rfl, fun j hj => by omega, ⟨w, Below.refl _ _, World.ownsRow_nil w w.heap.size 5 1⟩, rfl⟩
  case round =>
    obtain ⟨k, hk, rfl, hall, s, rfl⟩ := hrel
    by_cases hlt : k < ls.length
    · obtain ⟨b, o, rfl, hc⟩ := HP.out.cells (by omega)
      obtain ⟨a, cap, hcell0, hbytes⟩ := hc k hlt
      have hbk := World.block_lt_of_cell? w _ hcell0
      have hcell : s.w.cell? ⟨b, o + k, none⟩ = some (.slice a (partOf ls k).length cap) := by rw [s.below.cell (p := ⟨b, o + k, none⟩) hbk, hcell0]
      have hmax : (partOf ls k).length ≤ 9223372036854775807 := Nat.le_trans hbytes.len hbytes.capb
      by_cases hlong : 200 < (partOf ls k).length
      · have ha := alive_any s.w (HR.out.below s.below)
        clear hc hcell0
        generalize (partOf ls k).length = n at hcell hmax hlong
        go_wp2_with fail
        refine (OwnW.call (s := s) ha).mono ?_
        rintro e _ ⟨rfl, s1, rfl⟩
        clear ha hcell
        go_wp2
        go_ret
        exact ⟨rfl, s1.below⟩
      · have hle := HF.out k hk hall.out
        have HN := Lib.hid (show a = none → (partOf ls k).length = 0 ∧ cap = 0 from fun h => ⟨by have := hbytes.nil h; have := hbytes.len; omega, hbytes.nil h⟩)
        have HSRC := Lib.hid (show ∀ ad, a = some ad → ∀ j u, ((partOf ls k).map (Value.int .u8))[j]? = some u → s.w.cell? (ad.add j) = some u from fun ad had j u hu => by
          have hj := (List.getElem?_eq_some_iff.1 hu).1
          rw [List.length_map] at hj
          obtain ⟨b, o, h1, hc⟩ := hbytes.cells (by omega)
          obtain rfl := Option.some.inj (had.symm.trans h1)
          have hcj := hc j hj
          rw [Addr.add_mid, s.below.cell (p := ⟨b, o + j, none⟩) (World.block_lt_of_cell? _ _ hcj), hcj]
          rw [List.getElem?_map] at hu
          obtain ⟨x, hx, rfl⟩ := Option.map_eq_some_iff.1 hu
          rw [hx]; rfl)
        have HT := Lib.hid (take_flat ls hlt)
        have HALL := Lib.hid (show ∀ j, j < k + 1 → (partOf ls j).length ≤ 200 from fun j hj => by
          by_cases h : j < k
          · exact hall.out j h
          · obtain rfl : j = k := by omega
            omega)
        have HLN := Lib.hid (show ((ls.take k).flatten.map (Value.int .u8)).length + ((partOf ls k).map (Value.int .u8)).length ≤ 1099511627776 by rw [List.length_map, List.length_map]; omega)
        have HML := Lib.hid (show (partOf ls k).length = ((partOf ls k).map (Value.int .u8)).length from (List.length_map _).symm)
        clear hc hcell0 hall hle hbytes
        generalize partOf ls k = l at hcell hmax hlong HN HSRC HT HLN HML
        go_wp2_with (refine wpList_append_src E s (l.map (Value.int .u8)) (.tmp 26) (.tmp 27) rfl rfl rfl a l.length cap HML.out rfl HN.out HSRC.out (one_bytes _) HLN.out ?_; intro v' s2)
        go_roundw
        case rel => exact ⟨k + 1, by omega, by go_num, HALL.out, s2.as (by rw [HT.out, List.map_append]), rfl⟩
        case measure => simp [intOf]; omega
    · obtain rfl : k = ls.length := by omega
      have hfl := HF.out ls.length (Nat.le_refl _) hall.out
      rw [List.take_length] at hfl
      obtain ⟨T, hT⟩ : ∃ T, ls.flatten.length = T := ⟨_, rfl⟩
      rw [hT] at hfl
      have HT := Lib.hid hT
      obtain ⟨a2, cap2, bsx, rfl, hc2, hcb2, hrow, s3, hs3⟩ := (s.as (by rw [List.take_length]) : OwnW w 5 _ (ls.flatten.map (Value.int .u8))).held T (by rw [List.length_map, hT])
      rw [show s.w = s3.w from hs3]
      clear hs3 s hT
      go_wp2_with fail
      refine (HeldW.makes (s := s3) (new_any _)).mono ?_
      rintro e _ ⟨ga, oa, rfl, hga, hgab, hia, s4, rfl⟩
      clear s3
      go_wp2_with fail
      refine (HeldW.makes (s := s4) (new_any _)).mono ?_
      rintro e _ ⟨gb, ob, rfl, hgb, hgbb, hib, s5, rfl⟩
      have hba : ga ≠ gb := hgbb.out (ga, oa) List.mem_cons_self
      clear s4
      go_wp2
      go_loopw [8, 9, 40] (fun _ _ i wr => ∃ k : Nat, k ≤ ls.length ∧ i = .int .i64 k ∧ ∃ o' : Obj, Hid (Inv (ls.take k).flatten o') ∧ ∃ s : HeldW w ((ga, o') :: (gb, ob) :: bsx), wr = s.w) (fun _ _ i _ => ls.length - (intOf i).toNat)
      case atStart => exact ⟨0, by omega, rfl, oa, hia, s5.sub (fun p hp => by simp only [List.mem_cons] at hp ⊢; rcases hp with h | h | h <;> simp [h]), rfl⟩
      case round =>
        clear s5
        obtain ⟨k, hk, rfl, o', hi, s, rfl⟩ := hrel
        by_cases hlt : k < ls.length
        · obtain ⟨b, o, rfl, hc⟩ := HP.out.cells (by omega)
          obtain ⟨a, cap, hcell0, hbytes⟩ := hc k hlt
          have hbk := World.block_lt_of_cell? w _ hcell0
          have hcell : s.w.cell? ⟨b, o + k, none⟩ = some (.slice a (partOf ls k).length cap) := by rw [s.below.cell (p := ⟨b, o + k, none⟩) hbk, hcell0]
          have hlk := hall.out k hlt
          have hle := HF.out k hk (fun j hj => hall.out j (by omega))
          have hflat := take_flat ls hlt
          have hlg := (Array.getElem?_eq_some_iff.1 (s.blocks (ga, o') List.mem_cons_self)).1
          have hne : ∀ p ∈ (gb, ob) :: bsx, p.1 ≠ ga := List.forall_mem_cons.2 ⟨fun h => hba h.symm, hgab.out⟩
          have hw := write1 (s.push (.cells #[.slice a (partOf ls k).length cap] 22 (0, 0))) HR hi hga (Nat.ne_of_gt hlg) hne (HeldW.src hbytes hga _) hbytes.len hbytes.capb (by omega)
          rw [← hflat] at hw
          have hmax : (partOf ls k).length ≤ 200 := hlk
          clear hc hcell0 hbytes hflat hi hne hlg hle hlk
          generalize partOf ls k = l at hcell hw hmax
          by_cases h3 : (k : Int) % 3 = 0
          · go_wp2_with fail
            refine hw.mono ?_
            rintro e _ ⟨rfl, o2, hi2, s6, rfl⟩
            have hsu := HeldW.call (s := s6) (sum_any ga _ o2 s6.w hi2.out (s6.blocks (ga, o2) List.mem_cons_self) (HR.out.W s6) (by have := take_flat_le ls (k + 1); have := HT.out; omega))
            generalize shaL (ls.take (k + 1)).flatten = D at hsu
            clear hw hcell
            go_wp2_with fail
            refine hsu.mono ?_
            rintro e _ ⟨rfl, s7, rfl⟩
            clear hsu
            go_wp2
            go_roundw
            case rel => exact ⟨k + 1, by omega, by go_num, o2, hi2, s7, rfl⟩
            case measure => simp [intOf]; omega
          · have h3b : ((k : Int) % 3 == 0) = false := by simpa using h3
            go_wp2_with fail
            refine hw.mono ?_
            rintro e _ ⟨rfl, o2, hi2, s6, rfl⟩
            clear hw hcell
            go_wp2
            go_roundw
            case rel => exact ⟨k + 1, by omega, by go_num, o2, hi2, s6, rfl⟩
            case measure => simp [intOf]; omega
        · obtain rfl : k = ls.length := by omega
          rw [List.take_length] at hi
          have hne2 : ∀ p ∈ (ga, o') :: bsx, p.1 ≠ gb := List.forall_mem_cons.2 ⟨hba, fun p hp => hgbb.out p (List.mem_cons_of_mem _ hp)⟩
          have hwb := HeldW.takes (s := s.sub (bs' := (gb, ob) :: (ga, o') :: bsx) (fun p hp => by simp only [List.mem_cons] at hp ⊢; rcases hp with h | h | h <;> simp [h]))
            (write_any gb [] ls ob pa pcap s.w hib.out (s.blocks (gb, ob) (by simp)) (by have := HR.out.pos; omega) (HR.out.W s) ((HP.out.at hgb).below s.below) (by omega) (by rw [HT.out, List.length_nil]; omega)) hgb hne2
          rw [List.nil_append, HT.out] at hwb
          clear hne2 hgab hgbb hib hia
          go_wp2_with fail
          refine hwb.mono ?_
          rintro e _ ⟨rfl, ob2, hib, s8, rfl⟩
          clear hwb
          have hb8 : (s8.push (.cells #[.slice a2 T cap2] 22 (0, 0))).w.heap[s8.w.heap.size]? = some (.cells #[.slice a2 T cap2] 22 (0, 0)) := (s8.push (.cells #[.slice a2 T cap2] 22 (0, 0))).blocks (_, _) List.mem_cons_self
          have hof := HeldW.call (s := s8.push (.cells #[.slice a2 T cap2] 22 (0, 0))) (of_any [ls.flatten] (some ⟨s8.w.heap.size, 0, none⟩) 1 _ (HR.out.W _) (fun g hg => by
            have hlt := (Array.getElem?_eq_some_iff.1 hb8).1
            refine parts1 (a := a2) (cap := cap2) (by rw [HT.out]; exact hb8) (Nat.ne_of_lt (Nat.lt_of_lt_of_le hlt hg)) (by rw [HT.out]; exact hc2) hcb2 (fun hp => ?_)
            rw [HT.out] at hp
            obtain ⟨gO, cur, rfl, hgO, rfl, hcur⟩ := hrow.out hp
            have hown := (s8.push (.cells #[.slice (some ⟨gO, 0, none⟩) T cap2] 22 (0, 0))).blocks (gO, .cells cur 5 (0, 0)) (by simp)
            have hlo := (Array.getElem?_eq_some_iff.1 hown).1
            refine ⟨gO, 0, rfl, Nat.ne_of_lt (Nat.lt_of_lt_of_le hlo hg), fun i hi => ?_⟩
            rw [Nat.zero_add, cell_of hown, hcur i (.int .u8 (ls.flatten[i]?.getD 0)) (by rw [List.getElem?_map, List.getElem?_eq_getElem hi]; rfl)]) (by simp) (by rw [List.flatten_singleton, HT.out]; omega))
          rw [List.flatten_singleton] at hof
          have hD := Lib.hid (shaL_length ls.flatten)
          have hsa := fun s : World => sum_any ga ls.flatten o' s hi.out
          have hsb := fun s : World => sum_any gb ls.flatten ob2 s hib.out
          have hop := fun s : World => of_any ls pa pcap s
          have hla := fun s : World => len_any ga ls.flatten o' hi.out s
          rw [HT.out] at hla hsa hsb hop
          generalize shaL ls.flatten = D at hof hD hsa hsb hop
          have HSA := Lib.hid hsa
          have HSB := Lib.hid hsb
          have HOP := Lib.hid hop
          have HLA := Lib.hid hla
          clear hb8 hsa hsb hop hla
          go_wp2_with fail
          refine hof.mono ?_
          rintro e _ ⟨rfl, s9, rfl⟩
          clear hof
          have hn := heap_new s9.w (.cells zero32 24 (0, 0)) rfl
          have hsz : (byteA D).size = 32 := by rw [byteA_size, hD.out]
          have hinf : (Tryd.prog.info? 24).map (·.size) = some (byteA D).size := by rw [hsz]; kernel_rfl
          have hsr : zero32.size = (byteA D).size := by rw [hsz]; rfl
          have hone := byteA_one D
          clear hsz
          go_wp2_with (refine wpList_store_rowTo rfl 24 (.tmp 11) (.tmp 63) rfl rfl s9.w.heap.size (byteA D) rfl rfl 24 zero32 hn hinf hsr hone ?_)
          rw [World.setRow_alloc_new]
          obtain ⟨Wb, s10, hs10⟩ : ∃ (Wb : Nat) (s10 : HeldW w [(Wb, .cells (byteA D) 24 (0, 0)), (gb, ob2), (ga, o')]), Wb = s9.w.heap.size ∧ s9.w.alloc (.cells (byteA D) 24 (0, 0)) = s10.w :=
            ⟨s9.w.heap.size, (s9.push (.cells (byteA D) 24 (0, 0))).sub (fun p hp => by simp only [List.mem_cons, List.not_mem_nil, or_false] at hp ⊢; rcases hp with h | h | h <;> simp [h]), rfl, rfl⟩
          rw [hs10.2, ← hs10.1]
          have hal := fun s : HeldW w [(Wb, .cells (byteA D) 24 (0, 0)), (gb, ob2), (ga, o')] => alive_any s.w (HR.out.W s)
          have hsum := fun (x : Nat) (hx : x = ga ∨ x = gb) (s : HeldW w [(Wb, .cells (byteA D) 24 (0, 0)), (gb, ob2), (ga, o')]) => show Calls Tryd.prog 14 #[.pointer (some ⟨x, 0, none⟩)] s.w (Gives (.agg (byteA D)) s.w) by
            rcases hx with rfl | rfl
            · exact HSA.out s.w (s.blocks (_, o') (by simp)) (HR.out.W s) (by omega)
            · exact HSB.out s.w (s.blocks (_, ob2) (by simp)) (HR.out.W s) (by omega)
          have hof2 := fun (s : HeldW w [(Wb, .cells (byteA D) 24 (0, 0)), (gb, ob2), (ga, o')]) => HOP.out s.w (HR.out.W s) (fun g hg => (HP.out.at (Nat.le_trans s.below.size hg)).below s.below) (by omega) (by omega)
          have hlen2 := fun (s : HeldW w [(Wb, .cells (byteA D) 24 (0, 0)), (gb, ob2), (ga, o')]) => HLA.out s.w (s.blocks (ga, o') (by simp))
          have hld := fun (s : HeldW w [(Wb, .cells (byteA D) 24 (0, 0)), (gb, ob2), (ga, o')]) => load_arr D hD.out (s.blocks (Wb, _) List.mem_cons_self)
          have heq := equal_same D hD.out
          have hgt := guard_arr
          clear hs10 hn hinf hsr hone
          refine wp_region_class _ _ (by kernel_rfl) (by kernel_rfl) s10.below s10.blocks (fun hne => ?_)
          repeat (first | (refine quiet_load 24 (.tmp 11) (.agg (byteA D)) s10.w ⟨s10, rfl⟩ (by rintro _ ⟨s, rfl⟩; exact hld s) ?_; go_big_quiet_step (fail)) | go_big_quiet_step (first | (go_at_call 9; exact HeldW.call (hal _)) | (go_at_call 14; exact HeldW.call (hsum _ (by first | exact .inl rfl | exact .inr rfl) _)) | (go_at_call 10; exact HeldW.call (hof2 _)) | (go_at_call 15; exact HeldW.call (gives_same (hlen2 _)))))
          clear s10
          refine wpQuiet_nil ?_
          rintro _ ⟨s11, rfl⟩
          go_wp2
          go_ret
          exact ⟨rfl, s11.below⟩

theorem shaParts_walk (pa : Option Addr) (ls : List (List Int)) (pcap : Nat) (w : World) (hR : Roots w) (hp : PartsIn w pa ls) : Calls Tryd.prog 5 #[.slice pa ls.length pcap] w (Gives (.bool true) w) := by
  by_cases h : ls.length ≤ 30
  · exact parts_small pa ls pcap w hR hp h
  · exact parts_big pa ls pcap w hR (by omega) hp.len
end Go.Proofs.YtnpcocjjmajifaaDoor
