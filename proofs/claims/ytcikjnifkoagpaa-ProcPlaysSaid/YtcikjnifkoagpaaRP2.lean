/- The reference's lives and Len. -/
import Derived.Test.YtcikjnifkoagpaaRP1
import Derived.Test.YtcikjnifkoagpaaPC
namespace Go.Proofs.Ytcikjnifkoagpaa
open Go.RowKit
/-- The place of one that is there and hasn't ended; -1. -/
def lvP (l : Ps) (k : Int) : Int := match l.findIdx? (fun p => decide (p.pid = k)) with | some i => (if ((l[i]?).map (·.zom)) = some true then -1 else (i : Int)) | none => -1
theorem ixP_cases (l : Ps) (k : Int) : (ixP l k = -1 ∧ lvP l k = -1) ∨ ∃ (i : Nat) (p : Pr), l[i]? = some p ∧ p.pid = k ∧ ixP l k = i ∧ lvP l k = if p.zom = true then -1 else (i : Int) := by
  unfold ixP lvP
  cases h : l.findIdx? (fun p => decide (p.pid = k)) with
  | none => exact .inl ⟨rfl, rfl⟩
  | some i =>
    obtain ⟨hi, hp, _⟩ := List.findIdx?_eq_some_iff_getElem.1 h
    refine .inr ⟨i, l[i], List.getElem?_eq_getElem hi, by simpa using hp, rfl, ?_⟩
    simp [List.getElem?_eq_getElem hi]
set_option maxRecDepth 100000 in
set_option maxHeartbeats 1000000 in
theorem rlives_any {b g o cap : Nat} {room last : Int} {l : Ps} (k : Int) (w : World) (h : RT w b g o cap room last l) :
    Calls Try.prog 26 #[.pointer (some ⟨b, 0, none⟩), .int .i64 k] w fun e w' => e = .returned (.int .i64 (lvP l k)) ∧ w' = w := by
  have h0 := h.c0
  have hl := h.len
  have hA := rat_any k w h
  rcases ixP_cases l k with ⟨e1, e2⟩ | ⟨i, p, hp, _, e1, e2⟩
  · rw [e1] at hA
    rw [e2]
    have hAH := hidI2 hA
    clear hA e1 e2 h0 h hl
    go_enter Try.func26, Try.ntmps26
    go_wp2_with fail
    refine hAH.out.mono ?_
    rintro e w1 ⟨rfl, rfl⟩
    go_wp2_with fail
    go_ret
    exact ⟨rfl, rfl⟩
  · rw [e1] at hA
    rw [e2]
    have hAH := hidI2 hA
    have c3 := h.e3 i p hp
    obtain ⟨n, hn⟩ : ∃ n, l.length = n := ⟨_, rfl⟩
    have hin : i < n := by have := (List.getElem?_eq_some_iff.1 hp).1; omega
    have hiI : (i : Int) < (n : Int) := by omega
    rw [hn] at h0 hl
    clear hA e1 e2 h hp hn
    cases hz : p.zom with
    | false =>
      rw [hz] at c3
      clear hz
      go_enter Try.func26, Try.ntmps26
      go_wp2_with fail
      refine hAH.out.mono ?_
      rintro e w1 ⟨rfl, rfl⟩
      go_wp2_with fail
      go_ret
      exact ⟨rfl, rfl⟩
    | true =>
      rw [hz] at c3
      clear hz
      go_enter Try.func26, Try.ntmps26
      go_wp2_with fail
      refine hAH.out.mono ?_
      rintro e w1 ⟨rfl, rfl⟩
      go_wp2_with fail
      go_ret
      exact ⟨rfl, rfl⟩
end Go.Proofs.Ytcikjnifkoagpaa
