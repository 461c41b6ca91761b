/- The reference's Len. -/
import Derived.Test.YtcikjnifkoagpaaRP1
namespace Go.Proofs.Ytcikjnifkoagpaa
open Go.RowKit
set_option maxRecDepth 100000 in
set_option maxHeartbeats 1000000 in
theorem rlen_any {b g o cap : Nat} {room last : Int} {l : Ps} (w : World) (h : RT w b g o cap room last l) :
    Calls Try.prog 22 #[.pointer (some ⟨b, 0, none⟩)] w fun e w' => e = .returned (.int .i64 ((l.length : Int) - 1)) ∧ w' = w := by
  have h0 := h.c0
  have hl := h.len
  obtain ⟨n, hn⟩ : ∃ n, l.length = n := ⟨_, rfl⟩
  rw [hn] at h0 hl ⊢
  clear h hn
  go_enter Try.func22, Try.ntmps22
  go_wp2_with fail
  go_ret
  exact ⟨rfl, rfl⟩
end Go.Proofs.Ytcikjnifkoagpaa
