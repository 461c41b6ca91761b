/- The law CalendarWeekly holds. -/
import Derived.Test.YtfjbonhlokbhpaaDoorW1B
namespace Go.Proofs.YtfjbonhlokbhpaaDoor
open Go.RowKit
theorem pW0 (w : World) (hg : GlP w) : Calls Tryd.prog 15 #[.string ⟨#[77, 111, 110]⟩] w (ParP w (xW 0)) :=
  parse_any _ w hg (xW 0) (by kernel_rfl) (by decide +kernel) (by decide +kernel)
theorem pW1 (w : World) (hg : GlP w) : Calls Tryd.prog 15 #[.string ⟨#[84, 117, 101]⟩] w (ParP w (xW 1)) :=
  parse_any _ w hg (xW 1) (by kernel_rfl) (by decide +kernel) (by decide +kernel)
theorem pW2 (w : World) (hg : GlP w) : Calls Tryd.prog 15 #[.string ⟨#[87, 101, 100]⟩] w (ParP w (xW 2)) :=
  parse_any _ w hg (xW 2) (by kernel_rfl) (by decide +kernel) (by decide +kernel)
theorem pW3 (w : World) (hg : GlP w) : Calls Tryd.prog 15 #[.string ⟨#[84, 104, 117]⟩] w (ParP w (xW 3)) :=
  parse_any _ w hg (xW 3) (by kernel_rfl) (by decide +kernel) (by decide +kernel)
theorem pW4 (w : World) (hg : GlP w) : Calls Tryd.prog 15 #[.string ⟨#[70, 114, 105]⟩] w (ParP w (xW 4)) :=
  parse_any _ w hg (xW 4) (by kernel_rfl) (by decide +kernel) (by decide +kernel)
theorem pW5 (w : World) (hg : GlP w) : Calls Tryd.prog 15 #[.string ⟨#[83, 97, 116]⟩] w (ParP w (xW 5)) :=
  parse_any _ w hg (xW 5) (by kernel_rfl) (by decide +kernel) (by decide +kernel)
theorem pW6 (w : World) (hg : GlP w) : Calls Tryd.prog 15 #[.string ⟨#[83, 117, 110]⟩] w (ParP w (xW 6)) :=
  parse_any _ w hg (xW 6) (by kernel_rfl) (by decide +kernel) (by decide +kernel)
theorem weekly_walk (n0 : Nat) (t : Int) (w : World) (hg : GlP w) (h0 : n0 ≤ 255) (ht0 : -9223372036854775808 ≤ t) (ht1 : t ≤ 9223372036854775807) :
    Calls Tryd.prog 6 #[.int .u8 n0, .int .i64 t] w fun e w' => e = .returned (.bool true) ∧ Below w.heap.size w w' := by
  have h7 : n0 % 7 = 0 ∨ n0 % 7 = 1 ∨ n0 % 7 = 2 ∨ n0 % 7 = 3 ∨ n0 % 7 = 4 ∨ n0 % 7 = 5 ∨ n0 % 7 = 6 := by omega
  rcases h7 with hk | hk | hk | hk | hk | hk | hk
  · exact weekly_at n0 0 t _ w hg (by omega) hk ht0 ht1 (fun _ => rfl) pW0 (by decide +kernel)
  · exact weekly_at n0 1 t _ w hg (by omega) hk ht0 ht1 (fun _ => rfl) pW1 (by decide +kernel)
  · exact weekly_at n0 2 t _ w hg (by omega) hk ht0 ht1 (fun _ => rfl) pW2 (by decide +kernel)
  · exact weekly_at n0 3 t _ w hg (by omega) hk ht0 ht1 (fun _ => rfl) pW3 (by decide +kernel)
  · exact weekly_at n0 4 t _ w hg (by omega) hk ht0 ht1 (fun _ => rfl) pW4 (by decide +kernel)
  · exact weekly_at n0 5 t _ w hg (by omega) hk ht0 ht1 (fun _ => rfl) pW5 (by decide +kernel)
  · exact weekly_at n0 6 t _ w hg (by omega) hk ht0 ht1 (fun _ => rfl) pW6 (by decide +kernel)
end Go.Proofs.YtfjbonhlokbhpaaDoor
