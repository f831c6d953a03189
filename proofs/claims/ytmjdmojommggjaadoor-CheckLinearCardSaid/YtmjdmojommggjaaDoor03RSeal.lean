/- Seal of the reference. -/
import Derived.Test.YtmjdmojommggjaaDoor00Clone8
import Derived.Test.YtmjdmojommggjaaDoor03RSum
import Derived.Test.YtmjdmojommggjaaDoor03Seal
namespace Go.Proofs.YtmjdmojommggjaaDoor
open Go.RowKit
set_option linter.unusedVariables false

set_option maxRecDepth 100000 in
set_option maxHeartbeats 4000000 in
theorem rcseal_any (l : List Int) (a : Option Addr) (cap : Nat) (w : World) (hb : BytesIn w a l cap) (hm : l.length ≤ 1000000) : Calls Tryd.prog 14 #[.slice a l.length cap] w (MakesR 5 ((sealL l).map (Value.int .u8)) w) := by
  obtain ⟨E⟩ := elem_of (P := Tryd.prog) (t := 24) (e := 5) (z := .int .u8 0) (n := 1) Tryd.underlying24 (by kernel_rfl) rfl (by omega)
  have hof := rcof_any l a cap w hb
  have HSL := Lib.hid (show sealL l = l ++ le4 (crc l) from rfl)
  generalize crc l = c at hof HSL
  obtain ⟨so, hso⟩ := own_empty w
  have HSO := Lib.hid hso
  have HSRC := Lib.hid (hb.below so.below).news
  have HML := Lib.hid (show l.length = (l.map (Value.int .u8)).length from (List.length_map _).symm)
  have HLN := Lib.hid hm
  have HNIL := Lib.hid (hb.nil2 rfl)
  clear hso hb hm
  go_enter Tryd.func14, Tryd.ntmps14
  go_wp2_with fail
  refine hof.mono ?_
  rintro e _ ⟨rfl, rfl⟩
  clear hof
  go_wp2_with (first
    | (rw [HSO.out]; refine wpList_append_src E so (l.map (Value.int .u8)) (.tmp 6) (.tmp 7) rfl rfl rfl a l.length cap HML.out rfl HNIL.out HSRC.out (one_bytes _) (by rw [List.length_nil, List.length_map]; have := HLN.out; omega) ?_; intro v' s2)
    | (refine wpList_append_O E s2 [.int .u8 ((c : Int) % 256), .int .u8 ((c : Int) / 256 % 256), .int .u8 ((c : Int) / 65536 % 256), .int .u8 ((c : Int) / 16777216 % 256)] _ rfl (.tmp 8) (.tmp 20) rfl rfl rfl 4 4 rfl rfl (by simp [Value.oneCell']) (by rw [List.nil_append, List.length_map]; have := HLN.out; simp; omega) ?_; intro v2 s3))
  go_ret
  exact ⟨_, rfl, s3.as (by rw [HSL.out]; simp [le4]), rfl⟩
end Go.Proofs.YtmjdmojommggjaaDoor
