/- The reference's Signals. -/
import Derived.Test.YtcikjnifkoagpaaRP2
namespace Go.Proofs.Ytcikjnifkoagpaa
open Go.RowKit
theorem below_dn3 {w w' : World} {m : Nat} (h : Below m w w') (n : Nat) : Below m w (w'.drewN n) := ⟨h.os, h.tape, h.output, h.size, h.block⟩
/-- What was sent to the one of that number. -/
def sgP (l : Ps) (k : Int) : Bool × Bool := match lk l k with | some p => (p.term, p.kill) | none => (false, false)
theorem ixP_lk (l : Ps) (k : Int) : (ixP l k = -1 ∧ lk l k = none) ∨ ∃ (i : Nat) (p : Pr), l[i]? = some p ∧ ixP l k = i ∧ lk l k = some p := by
  unfold ixP lk
  cases h : l.findIdx? (fun p => decide (p.pid = k)) with
  | none =>
    refine .inl ⟨rfl, ?_⟩
    rw [List.find?_eq_none]
    intro p hp
    have := List.findIdx?_eq_none_iff.1 h p hp
    simpa using this
  | some i =>
    obtain ⟨hi, hp, hn⟩ := List.findIdx?_eq_some_iff_getElem.1 h
    refine .inr ⟨i, l[i], List.getElem?_eq_getElem hi, rfl, ?_⟩
    rw [List.find?_eq_some_iff_getElem]
    exact ⟨hp, i, hi, rfl, fun j hj => by simpa using hn j hj⟩
set_option maxRecDepth 100000 in
set_option maxHeartbeats 1000000 in
theorem rsignals_any {b g o cap : Nat} {room last : Int} {l : Ps} (k : Int) (w : World) (h : RT w b g o cap room last l) :
    Calls Try.prog 20 #[.pointer (some ⟨b, 0, none⟩), .int .i64 k] w fun e w' => e = .returned (.tuple #[.bool (sgP l k).1, .bool (sgP l k).2]) ∧ Below w.heap.size w w' := by
  have h0 := h.c0
  have hl := h.len
  have hA := rat_any k w h
  unfold sgP
  rcases ixP_lk l k with ⟨e1, e2⟩ | ⟨i, p, hp, e1, e2⟩
  · rw [e1] at hA
    rw [e2]
    have hAH := hidI2 hA
    clear hA e1 e2 h0 h hl
    go_enter Try.func20, Try.ntmps20
    go_wp2_with fail
    refine hAH.out.mono ?_
    rintro e w1 ⟨rfl, rfl⟩
    go_wp2_with fail
    go_ret2
    exact ⟨rfl, Below.refl _ _⟩
  · rw [e1] at hA
    rw [e2]
    have hAH := hidI2 hA
    have c6 := h.e6 i p hp
    have c7 := h.e7 i p hp
    obtain ⟨n, hn⟩ : ∃ n, l.length = n := ⟨_, rfl⟩
    have hin : i < n := by have := (List.getElem?_eq_some_iff.1 hp).1; omega
    have hiI : (i : Int) < (n : Int) := by omega
    rw [hn] at h0 hl
    clear hA e1 e2 h hp hn
    go_enter Try.func20, Try.ntmps20
    go_wp2_with fail
    refine hAH.out.mono ?_
    rintro e w1 ⟨rfl, rfl⟩
    go_wp2_with fail
    go_quiet (fail)
    go_wp2_with fail
    go_ret2
    exact ⟨rfl, below_dn3 (Below.refl _ _) _⟩
end Go.Proofs.Ytcikjnifkoagpaa
