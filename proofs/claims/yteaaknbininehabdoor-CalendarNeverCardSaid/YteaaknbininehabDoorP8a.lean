/- The worlds between the lists of a time of day; a split's row is the call's own. -/
import Derived.Test.YteaaknbininehabDoorP6q
import Derived.Maps.AppendAt
namespace Go.Proofs.YteaaknbininehabDoor
open Go.RowKit
/-- The worlds among which the statement's steps go. -/
structure QK (w : World) (b g : Nat) (t0 t1 t2 : ByteArray) (w' : World) : Prop where
  q0 : w'.cell? ⟨g, 0, none⟩ = some (.string t0)
  q1 : w'.cell? ⟨g, 1, none⟩ = some (.string t1)
  q2 : w'.cell? ⟨g, 2, none⟩ = some (.string t2)
  gl : GlP w'
  m4 : ∃ u, w'.cell? ⟨b, 4, none⟩ = some u
  m5 : ∃ u, w'.cell? ⟨b, 5, none⟩ = some u
  m6 : ∃ u, w'.cell? ⟨b, 6, none⟩ = some u
  n4 : w'.frozen? ⟨b, 4, none⟩ = false
  n5 : w'.frozen? ⟨b, 5, none⟩ = false
  n6 : w'.frozen? ⟨b, 6, none⟩ = false
  st : ∃ c1 c2 c3, St w b 4 c1 c2 c3 w'
theorem qk1 {w w' : World} {b g : Nat} {t0 t1 t2 : ByteArray} (hb2 : 2 < b) (hne : g ≠ b) (t : ByteArray) (lo hi : Int) (r : Bool) (hr : (pNs t lo hi).isSome = r) (hz : t.size ≤ 100000) (hq : QK w b g t0 t1 t2 w') :
    Calls Tryd.prog 51 #[.pointer (some ⟨b, 4, none⟩), .string t, .agg #[.int .i64 lo, .int .i64 hi]] w' fun e w'' => e = .returned (.bool r) ∧ QK w b g t0 t1 t2 w'' := by
  refine (pn2 t lo hi b 4 w' w' (.inl rfl) hq.gl hz hq.m4 hq.n4).mono ?_
  rintro e w2 ⟨he, sl, hu, hp⟩
  rw [hr] at he
  obtain ⟨c1, c2, c3, hC⟩ := hq.st
  exact ⟨he, hu.old hne hq.q0, hu.old hne hq.q1, hu.old hne hq.q2, hu.glp hq.gl hb2, ⟨_, hu.here⟩, hu.ex 5 (by decide) hq.m5, hu.ex 6 (by decide) hq.m6, (hu.froz 4).trans hq.n4, (hu.froz 5).trans hq.n5, (hu.froz 6).trans hq.n6, ⟨_, _, _, St.n1 hC hu hp⟩⟩
theorem qk2 {w w' : World} {b g : Nat} {t0 t1 t2 : ByteArray} (hb2 : 2 < b) (hne : g ≠ b) (t : ByteArray) (lo hi : Int) (r : Bool) (hr : (pNs t lo hi).isSome = r) (hz : t.size ≤ 100000) (hq : QK w b g t0 t1 t2 w') :
    Calls Tryd.prog 51 #[.pointer (some ⟨b, 5, none⟩), .string t, .agg #[.int .i64 lo, .int .i64 hi]] w' fun e w'' => e = .returned (.bool r) ∧ QK w b g t0 t1 t2 w'' := by
  refine (pn2 t lo hi b 5 w' w' (.inl rfl) hq.gl hz hq.m5 hq.n5).mono ?_
  rintro e w2 ⟨he, sl, hu, hp⟩
  rw [hr] at he
  obtain ⟨c1, c2, c3, hC⟩ := hq.st
  exact ⟨he, hu.old hne hq.q0, hu.old hne hq.q1, hu.old hne hq.q2, hu.glp hq.gl hb2, hu.ex 4 (by decide) hq.m4, ⟨_, hu.here⟩, hu.ex 6 (by decide) hq.m6, (hu.froz 4).trans hq.n4, (hu.froz 5).trans hq.n5, (hu.froz 6).trans hq.n6, ⟨_, _, _, St.n2 hC hu hp⟩⟩
theorem qk3 {w w' : World} {b g : Nat} {t0 t1 t2 : ByteArray} (hb2 : 2 < b) (hne : g ≠ b) (t : ByteArray) (lo hi : Int) (r : Bool) (hr : (pNs t lo hi).isSome = r) (hz : t.size ≤ 100000) (hq : QK w b g t0 t1 t2 w') :
    Calls Tryd.prog 51 #[.pointer (some ⟨b, 6, none⟩), .string t, .agg #[.int .i64 lo, .int .i64 hi]] w' fun e w'' => e = .returned (.bool r) ∧ QK w b g t0 t1 t2 w'' := by
  refine (pn2 t lo hi b 6 w' w' (.inl rfl) hq.gl hz hq.m6 hq.n6).mono ?_
  rintro e w2 ⟨he, sl, hu, hp⟩
  rw [hr] at he
  obtain ⟨c1, c2, c3, hC⟩ := hq.st
  exact ⟨he, hu.old hne hq.q0, hu.old hne hq.q1, hu.old hne hq.q2, hu.glp hq.gl hb2, hu.ex 4 (by decide) hq.m4, hu.ex 5 (by decide) hq.m5, ⟨_, hu.here⟩, (hu.froz 4).trans hq.n4, (hu.froz 5).trans hq.n5, (hu.froz 6).trans hq.n6, ⟨_, _, _, St.n3 hC hu hp⟩⟩
set_option maxHeartbeats 1000000 in
theorem split_own (s sep : ByteArray) (most : Nat) (w : World) (hg : GlP w) (hs : s.size ≤ 100000) (h1 : 1 ≤ sep.size) (hm : most ≤ 1000) :
    Calls Tryd.prog 25 #[.string s, .string sep, .int .i64 most] w fun e w' => ∃ cap, e = .returned (.slice (some ⟨w.heap.size, 0, none⟩) (splitT s sep most).length cap) ∧ w'.ownsRow w.heap.size 9 1 (.slice (some ⟨w.heap.size, 0, none⟩) (splitT s sep most).length cap) (splitT s sep most).length ((splitT s sep most).map Value.string) ∧ Below w.heap.size w w' := by
  obtain ⟨m, hmx⟩ := hg.mx
  have hI := Tryd.strings_SplitN s sep (most + 1) m w (by omega) hmx h1 (by omega) (by omega)
  have hle : (splitT s sep most).length ≤ min (most + 1) (s.size + 1) := by
    have := Lib.splitB_length_le sep 0 (min (most + 1) (s.size + 1) - 1) s
    unfold splitT
    omega
  have hmx2 : min (most + 1) (s.size + 1) ≤ maxLen := by unfold maxLen; omega
  rw [show ((most + 1 : Nat) : Int) = (most : Int) + 1 by omega] at hI
  change Calls _ _ _ _ (fun e w' => e = .returned (.slice (some ⟨w.heap.size, 0, none⟩) (splitT s sep most).length (min (most + 1) (s.size + 1))) ∧ w' = w.alloc (.cells (Lib.cellsOf (splitT s sep most) (min (most + 1) (s.size + 1))) 9)) at hI
  obtain ⟨L, hL⟩ : ∃ L, splitT s sep most = L := ⟨_, rfl⟩
  obtain ⟨N, hN⟩ : ∃ N, min (most + 1) (s.size + 1) = N := ⟨_, rfl⟩
  rw [hL, hN] at hI
  rw [hL, hN] at hle
  rw [hN] at hmx2
  rw [hL]
  clear hL hN
  go_enter Tryd.func25, Tryd.ntmps25
  go_wp2_with fail
  refine hI.mono ?_
  rintro e w1 ⟨rfl, rfl⟩
  go_wp2_with fail
  go_ret
  refine ⟨_, rfl, ⟨by simp, .inr ⟨w.heap.size, N, _, rfl, Nat.le_refl _, heap_alloc_new w _, hle, hmx2, ?_, ?_⟩⟩, (Below.refl _ _).alloc (Nat.le_refl _) _⟩
  · unfold Lib.cellsOf
    simp; omega
  · unfold Lib.cellsOf
    simp
end Go.Proofs.YteaaknbininehabDoor
