/- GraphDefaults, whole. -/
import Derived.Test.YtcfclknfnadgcaaDoorGEs0
import Derived.Test.YtcfclknfnadgcaaDoorGEs1
namespace Go.Proofs.YtcfclknfnadgcaaDoor
open Go.RowKit
theorem defaults_walk (n : Nat) (p : Bool) (w : World) (hg : GlN w) (hn : n < 256) : Calls Tryd.prog 5 #[.int .u8 n, .bool p] w fun e w' => e = .returned (.bool true) ∧ Below w.heap.size w w' := by
  have h6 : n % 6 < 6 := Nat.mod_lt _ (by omega)
  obtain ⟨k, hk⟩ : ∃ k, n % 6 = k := ⟨_, rfl⟩
  rw [hk] at h6
  match k, h6, hk with
  | 0, _, hk => cases p; exact defs_0_false n hn hk w hg; exact defs_0_true n hn hk w hg
  | 1, _, hk => cases p; exact defs_1_false n hn hk w hg; exact defs_1_true n hn hk w hg
  | 2, _, hk => cases p; exact defs_2_false n hn hk w hg; exact defs_2_true n hn hk w hg
  | 3, _, hk => cases p; exact defs_3_false n hn hk w hg; exact defs_3_true n hn hk w hg
  | 4, _, hk => cases p; exact defs_4_false n hn hk w hg; exact defs_4_true n hn hk w hg
  | 5, _, hk => cases p; exact defs_5_false n hn hk w hg; exact defs_5_true n hn hk w hg
end Go.Proofs.YtcfclknfnadgcaaDoor
