/- The law SpanReads answers true at every text: its walk. -/
import Derived.Test.YtlnfapkpehhafaaDoorR6
namespace Go.Proofs.YtlnfapkpehhafaaDoor
open Go.RowKit
theorem parse_b (s : ByteArray) (w : World) (hl : s.size ≤ maxLen) (hT : TabsIn w) :
    Calls Tryd.prog 16 #[.string s] w fun e w' => e = .returned (.tuple #[.int .i64 (Sp.parseV s.data.toList), .int .i64 (Sp.parseE s.data.toList)]) ∧ Below w.heap.size w w' := by
  have h := parse_l s.data.toList w (by rw [size_list]; exact hl) hT.rd (Nat.lt_of_lt_of_le (show 1 < 8 by decide) hT.sz)
  rwa [Lib.mk_data] at h
set_option maxHeartbeats 1000000 in
theorem reads_walk (s : ByteArray) (w : World) (hT : TabsIn w) (hs : s.size ≤ maxLen) :
    Calls Tryd.prog 4 #[.string s] w fun e w' => e = .returned (.bool true) ∧ Below w.heap.size w w' := by
  have hs0 := hs
  unfold maxLen at hs
  by_cases hl : 2000 < s.size
  · go_enter Tryd.func4, Tryd.ntmps4
    go_wp2_with fail
    refine (known_any _ hT).mono ?_
    rintro e w1 ⟨rfl, hb1⟩
    go_wp2_with fail
    go_ret
    exact ⟨rfl, hb1⟩
  · go_enter Tryd.func4, Tryd.ntmps4
    go_wp2_with fail
    refine (known_any _ hT).mono ?_
    rintro e w1 ⟨rfl, hb1⟩
    have hT1 := hT.below hb1
    go_wp2_with fail
    refine (parse_b s _ hs0 hT1).mono ?_
    rintro e w2 ⟨rfl, hb2⟩
    go_wp2_with fail
    refine (rParse_b s _ (by omega)).mono ?_
    rintro e w3 ⟨rfl, hb3⟩
    go_wp2_with fail
    go_ret
    exact ⟨by simp, hb1.trans ((hb2.mono hb1.size).trans (hb3.mono (Nat.le_trans hb1.size hb2.size)))⟩
end Go.Proofs.YtlnfapkpehhafaaDoor
