/- The contract of the reference's unit. -/
import Derived.Test.YtlnfapkpehhafaaDoorR4
namespace Go.Proofs.YtlnfapkpehhafaaDoor
open Go.RowKit
def uNameCells : List Value := [.string ⟨#[115, 101, 99]⟩, .string ⟨#[109, 105, 110]⟩, .string ⟨#[104, 114]⟩, .string ⟨#[115]⟩, .string ⟨#[109]⟩, .string ⟨#[104]⟩, .string ⟨#[100]⟩, .string ⟨#[119]⟩]
def uSecCells : List Value := [.int .i64 1, .int .i64 60, .int .i64 3600, .int .i64 1, .int .i64 60, .int .i64 3600, .int .i64 86400, .int .i64 604800]
structure UArr (w W : World) : Prop where
  nm : ∀ (j : Nat) v, uNameCells[j]? = some v → W.cell? ⟨w.heap.size, j, none⟩ = some v
  sc : ∀ (j : Nat) v, uSecCells[j]? = some v → W.cell? ⟨w.heap.size + 1, j, none⟩ = some v
  bl : Below w.heap.size w W
theorem uarr_new (w : World) : UArr w ((w.alloc (.cells #[.string ⟨#[115, 101, 99]⟩, .string ⟨#[109, 105, 110]⟩, .string ⟨#[104, 114]⟩, .string ⟨#[115]⟩, .string ⟨#[109]⟩, .string ⟨#[104]⟩, .string ⟨#[100]⟩, .string ⟨#[119]⟩] 41)).alloc (.cells #[.int .i64 1, .int .i64 60, .int .i64 3600, .int .i64 1, .int .i64 60, .int .i64 3600, .int .i64 86400, .int .i64 604800] 42)) := by
  refine ⟨fun j v hv => ?_, fun j v hv => ?_, ((Below.refl _ w).alloc (Nat.le_refl _) _).alloc (by simp) _⟩
  · rw [Below.cell (B := w.heap.size + 1) ((Below.refl _ _).alloc (by simp) _) (p := ⟨w.heap.size, j, none⟩) (by simp)]
    simpa [uNameCells] using hv
  · simpa [uSecCells] using hv
def UAt (l : List UInt8) (T : List (List UInt8 × Int)) : Prop := Sp.unitV Sp.refT l = Sp.unitV T l ∧ Sp.unitN Sp.refT l = Sp.unitN T l
theorem u_hit {s : ByteArray} {p : List UInt8} {n : Nat} (h : ((s.extract 0 n).toList == p) = true) : Lib.hasPrefix s.data.toList p = true := by
  have h1 := eq_of_beq h
  rw [Lib.extract_toList, List.drop_zero, Nat.sub_zero] at h1
  unfold Lib.hasPrefix
  rw [List.isPrefixOf_iff_prefix, ← h1]
  exact List.take_prefix _ _
theorem u_miss {s : ByteArray} {p : List UInt8} {n : Nat} (hn : p.length = n) (h : ((s.extract 0 n).toList == p) = false) : Lib.hasPrefix s.data.toList p = false := by
  rw [Bool.eq_false_iff]
  intro hp
  rw [beq_eq_false_iff_ne] at h
  apply h
  rw [Lib.extract_toList, List.drop_zero, Nat.sub_zero]
  unfold Lib.hasPrefix at hp
  have h2 := List.prefix_iff_eq_take.1 (List.isPrefixOf_iff_prefix.1 hp)
  rw [hn] at h2
  exact h2.symm
theorem u_short {s : ByteArray} {p : List UInt8} (h : s.size < p.length) : Lib.hasPrefix s.data.toList p = false := by
  rw [Bool.eq_false_iff]
  intro hp
  have := Sp.hasPrefix_len hp
  rw [size_list] at this
  omega
theorem u_yes {l p : List UInt8} {k : Int} {n : Nat} {r : List (List UInt8 × Int)} (hu : UAt l ((p, k) :: r)) (hn : p.length = n) (h : Lib.hasPrefix l p = true) :
    Ending.returned (.tuple #[.int .i64 k, .int .i64 n]) = .returned (.tuple #[.int .i64 (Sp.unitV Sp.refT l), .int .i64 (Sp.unitN Sp.refT l)]) := by
  obtain ⟨a, b⟩ := hu
  rw [a, b]
  simp [Sp.unitV, Sp.unitN, h, hn]
theorem u_next {l p : List UInt8} {k : Int} {r : List (List UInt8 × Int)} (hu : UAt l ((p, k) :: r)) (h : Lib.hasPrefix l p = false) : UAt l r := by
  obtain ⟨a, b⟩ := hu
  refine ⟨a.trans ?_, b.trans ?_⟩
  · simp [Sp.unitV, h]
  · simp [Sp.unitN, h]
set_option maxRecDepth 100000 in
set_option maxHeartbeats 1000000 in
theorem unit_b (s : ByteArray) (w : World) (hs : s.size ≤ maxLen) :
    Calls Tryd.prog 28 #[.string s] w fun e w' => e = .returned (.tuple #[.int .i64 (Sp.unitV Sp.refT s.data.toList), .int .i64 (Sp.unitN Sp.refT s.data.toList)]) ∧ Below w.heap.size w w' := by
  unfold maxLen at hs
  go_enter Tryd.func28, Tryd.ntmps28
  go_wp2_with fail
  have hA := uarr_new w
  generalize (w.alloc (.cells #[.string ⟨#[115, 101, 99]⟩, .string ⟨#[109, 105, 110]⟩, .string ⟨#[104, 114]⟩, .string ⟨#[115]⟩, .string ⟨#[109]⟩, .string ⟨#[104]⟩, .string ⟨#[100]⟩, .string ⟨#[119]⟩] 41)).alloc (.cells #[.int .i64 1, .int .i64 60, .int .i64 3600, .int .i64 1, .int .i64 60, .int .i64 3600, .int .i64 86400, .int .i64 604800] 42) = W2 at hA ⊢
  go_loop [6] (fun ix => ∃ k : Nat, k ≤ 8 ∧ ix = .int .i64 k ∧ UAt s.data.toList (Sp.refT.drop k)) (fun ix => 8 - (intOf ix).toNat)
  case atStart => exact ⟨0, by omega, rfl, rfl, rfl⟩
  case round =>
    obtain ⟨k, hk, rfl, hu⟩ := hrel
    have hk2 : k = 0 ∨ k = 1 ∨ k = 2 ∨ k = 3 ∨ k = 4 ∨ k = 5 ∨ k = 6 ∨ k = 7 ∨ k = 8 := by omega
    clear hk
    rcases hk2 with rfl | rfl | rfl | rfl | rfl | rfl | rfl | rfl | rfl
    · have cn := hA.nm 0 _ rfl
      have cs := hA.sc 0 _ rfl
      by_cases hl : 3 ≤ s.size
      · go_wp2_with fail
        · go_ret2
          exact ⟨u_yes (n := 3) (r := Sp.refT.drop 1) hu rfl (u_hit ‹_›), hA.bl⟩
        · exact ⟨⟨1, by omega, rfl, u_next (r := Sp.refT.drop 1) hu (u_miss (n := 3) rfl ‹_›)⟩, by simp [intOf]⟩
      · go_wp2_with fail
        exact ⟨⟨1, by omega, rfl, u_next (r := Sp.refT.drop 1) hu (u_short (by show s.size < _; simp only [List.length_cons, List.length_nil]; omega))⟩, by simp [intOf]⟩
    · have cn := hA.nm 1 _ rfl
      have cs := hA.sc 1 _ rfl
      by_cases hl : 3 ≤ s.size
      · go_wp2_with fail
        · go_ret2
          exact ⟨u_yes (n := 3) (r := Sp.refT.drop 2) hu rfl (u_hit ‹_›), hA.bl⟩
        · exact ⟨⟨2, by omega, rfl, u_next (r := Sp.refT.drop 2) hu (u_miss (n := 3) rfl ‹_›)⟩, by simp [intOf]⟩
      · go_wp2_with fail
        exact ⟨⟨2, by omega, rfl, u_next (r := Sp.refT.drop 2) hu (u_short (by show s.size < _; simp only [List.length_cons, List.length_nil]; omega))⟩, by simp [intOf]⟩
    · have cn := hA.nm 2 _ rfl
      have cs := hA.sc 2 _ rfl
      by_cases hl : 2 ≤ s.size
      · go_wp2_with fail
        · go_ret2
          exact ⟨u_yes (n := 2) (r := Sp.refT.drop 3) hu rfl (u_hit ‹_›), hA.bl⟩
        · exact ⟨⟨3, by omega, rfl, u_next (r := Sp.refT.drop 3) hu (u_miss (n := 2) rfl ‹_›)⟩, by simp [intOf]⟩
      · go_wp2_with fail
        exact ⟨⟨3, by omega, rfl, u_next (r := Sp.refT.drop 3) hu (u_short (by show s.size < _; simp only [List.length_cons, List.length_nil]; omega))⟩, by simp [intOf]⟩
    · have cn := hA.nm 3 _ rfl
      have cs := hA.sc 3 _ rfl
      by_cases hl : 1 ≤ s.size
      · go_wp2_with fail
        · go_ret2
          exact ⟨u_yes (n := 1) (r := Sp.refT.drop 4) hu rfl (u_hit ‹_›), hA.bl⟩
        · exact ⟨⟨4, by omega, rfl, u_next (r := Sp.refT.drop 4) hu (u_miss (n := 1) rfl ‹_›)⟩, by simp [intOf]⟩
      · go_wp2_with fail
        exact ⟨⟨4, by omega, rfl, u_next (r := Sp.refT.drop 4) hu (u_short (by show s.size < _; simp only [List.length_cons, List.length_nil]; omega))⟩, by simp [intOf]⟩
    · have cn := hA.nm 4 _ rfl
      have cs := hA.sc 4 _ rfl
      by_cases hl : 1 ≤ s.size
      · go_wp2_with fail
        · go_ret2
          exact ⟨u_yes (n := 1) (r := Sp.refT.drop 5) hu rfl (u_hit ‹_›), hA.bl⟩
        · exact ⟨⟨5, by omega, rfl, u_next (r := Sp.refT.drop 5) hu (u_miss (n := 1) rfl ‹_›)⟩, by simp [intOf]⟩
      · go_wp2_with fail
        exact ⟨⟨5, by omega, rfl, u_next (r := Sp.refT.drop 5) hu (u_short (by show s.size < _; simp only [List.length_cons, List.length_nil]; omega))⟩, by simp [intOf]⟩
    · have cn := hA.nm 5 _ rfl
      have cs := hA.sc 5 _ rfl
      by_cases hl : 1 ≤ s.size
      · go_wp2_with fail
        · go_ret2
          exact ⟨u_yes (n := 1) (r := Sp.refT.drop 6) hu rfl (u_hit ‹_›), hA.bl⟩
        · exact ⟨⟨6, by omega, rfl, u_next (r := Sp.refT.drop 6) hu (u_miss (n := 1) rfl ‹_›)⟩, by simp [intOf]⟩
      · go_wp2_with fail
        exact ⟨⟨6, by omega, rfl, u_next (r := Sp.refT.drop 6) hu (u_short (by show s.size < _; simp only [List.length_cons, List.length_nil]; omega))⟩, by simp [intOf]⟩
    · have cn := hA.nm 6 _ rfl
      have cs := hA.sc 6 _ rfl
      by_cases hl : 1 ≤ s.size
      · go_wp2_with fail
        · go_ret2
          exact ⟨u_yes (n := 1) (r := Sp.refT.drop 7) hu rfl (u_hit ‹_›), hA.bl⟩
        · exact ⟨⟨7, by omega, rfl, u_next (r := Sp.refT.drop 7) hu (u_miss (n := 1) rfl ‹_›)⟩, by simp [intOf]⟩
      · go_wp2_with fail
        exact ⟨⟨7, by omega, rfl, u_next (r := Sp.refT.drop 7) hu (u_short (by show s.size < _; simp only [List.length_cons, List.length_nil]; omega))⟩, by simp [intOf]⟩
    · have cn := hA.nm 7 _ rfl
      have cs := hA.sc 7 _ rfl
      by_cases hl : 1 ≤ s.size
      · go_wp2_with fail
        · go_ret2
          exact ⟨u_yes (n := 1) (r := Sp.refT.drop 8) hu rfl (u_hit ‹_›), hA.bl⟩
        · exact ⟨⟨8, by omega, rfl, u_next (r := Sp.refT.drop 8) hu (u_miss (n := 1) rfl ‹_›)⟩, by simp [intOf]⟩
      · go_wp2_with fail
        exact ⟨⟨8, by omega, rfl, u_next (r := Sp.refT.drop 8) hu (u_short (by show s.size < _; simp only [List.length_cons, List.length_nil]; omega))⟩, by simp [intOf]⟩
    · go_wp2_with fail
      go_ret2
      obtain ⟨e1, e2⟩ := hu
      refine ⟨?_, hA.bl⟩
      rw [e1, e2]
      rfl
end Go.Proofs.YtlnfapkpehhafaaDoor
