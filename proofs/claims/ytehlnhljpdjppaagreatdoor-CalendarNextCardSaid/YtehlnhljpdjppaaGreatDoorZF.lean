import Derived.Test.YtehlnhljpdjppaaGreatDoorZE
import Derived.Maps.AppendAt
import Derived.Deep.AppendLies
import Derived.OwnWalk
/- The worlds between the lists of a time of day; a split's row is the call's own. -/
namespace Go.Proofs.YtehlnhljpdjppaaGreatDoor
open Go.RowKit
/-- The worlds among which the statement's steps go. -/
structure QK (w : World) (b g : Nat) (t0 t1 t2 : ByteArray) (w' : World) : Prop where
  q0 : w'.cell? ⟨g, 0, none⟩ = some (.string t0)
  q1 : w'.cell? ⟨g, 1, none⟩ = some (.string t1)
  q2 : w'.cell? ⟨g, 2, none⟩ = some (.string t2)
  gl : GlP w'
  m4 : ∃ u, w'.cell? ⟨b, 4, none⟩ = some u
  m5 : ∃ u, w'.cell? ⟨b, 5, none⟩ = some u
  m6 : ∃ u, w'.cell? ⟨b, 6, none⟩ = some u
  n4 : w'.frozen? ⟨b, 4, none⟩ = false
  n5 : w'.frozen? ⟨b, 5, none⟩ = false
  n6 : w'.frozen? ⟨b, 6, none⟩ = false
  st : ∃ c1 c2 c3, St w b 4 c1 c2 c3 w'
theorem qk1 {w w' : World} {b g : Nat} {t0 t1 t2 : ByteArray} (hb2 : 2 < b) (hne : g ≠ b) (t : ByteArray) (lo hi : Int) (r : Bool) (hr : (pNs t lo hi).isSome = r) (hz : t.size ≤ 100000) (hq : QK w b g t0 t1 t2 w') :
    Calls Tryz.prog 76 #[.pointer (some ⟨b, 4, none⟩), .string t, .agg #[.int .i64 lo, .int .i64 hi]] w' fun e w'' => e = .returned (.bool r) ∧ QK w b g t0 t1 t2 w'' := by
  refine (pn2 t lo hi b 4 w' w' (.inl rfl) hq.gl hz hq.m4 hq.n4).mono ?_
  rintro e w2 ⟨he, sl, hu, hp⟩
  rw [hr] at he
  obtain ⟨c1, c2, c3, hC⟩ := hq.st
  exact ⟨he, hu.old hne hq.q0, hu.old hne hq.q1, hu.old hne hq.q2, hu.glp hq.gl hb2, ⟨_, hu.here⟩, hu.ex 5 (by decide) hq.m5, hu.ex 6 (by decide) hq.m6, (hu.froz 4).trans hq.n4, (hu.froz 5).trans hq.n5, (hu.froz 6).trans hq.n6, ⟨_, _, _, St.n1 hC hu hp⟩⟩
theorem qk2 {w w' : World} {b g : Nat} {t0 t1 t2 : ByteArray} (hb2 : 2 < b) (hne : g ≠ b) (t : ByteArray) (lo hi : Int) (r : Bool) (hr : (pNs t lo hi).isSome = r) (hz : t.size ≤ 100000) (hq : QK w b g t0 t1 t2 w') :
    Calls Tryz.prog 76 #[.pointer (some ⟨b, 5, none⟩), .string t, .agg #[.int .i64 lo, .int .i64 hi]] w' fun e w'' => e = .returned (.bool r) ∧ QK w b g t0 t1 t2 w'' := by
  refine (pn2 t lo hi b 5 w' w' (.inl rfl) hq.gl hz hq.m5 hq.n5).mono ?_
  rintro e w2 ⟨he, sl, hu, hp⟩
  rw [hr] at he
  obtain ⟨c1, c2, c3, hC⟩ := hq.st
  exact ⟨he, hu.old hne hq.q0, hu.old hne hq.q1, hu.old hne hq.q2, hu.glp hq.gl hb2, hu.ex 4 (by decide) hq.m4, ⟨_, hu.here⟩, hu.ex 6 (by decide) hq.m6, (hu.froz 4).trans hq.n4, (hu.froz 5).trans hq.n5, (hu.froz 6).trans hq.n6, ⟨_, _, _, St.n2 hC hu hp⟩⟩
theorem qk3 {w w' : World} {b g : Nat} {t0 t1 t2 : ByteArray} (hb2 : 2 < b) (hne : g ≠ b) (t : ByteArray) (lo hi : Int) (r : Bool) (hr : (pNs t lo hi).isSome = r) (hz : t.size ≤ 100000) (hq : QK w b g t0 t1 t2 w') :
    Calls Tryz.prog 76 #[.pointer (some ⟨b, 6, none⟩), .string t, .agg #[.int .i64 lo, .int .i64 hi]] w' fun e w'' => e = .returned (.bool r) ∧ QK w b g t0 t1 t2 w'' := by
  refine (pn2 t lo hi b 6 w' w' (.inl rfl) hq.gl hz hq.m6 hq.n6).mono ?_
  rintro e w2 ⟨he, sl, hu, hp⟩
  rw [hr] at he
  obtain ⟨c1, c2, c3, hC⟩ := hq.st
  exact ⟨he, hu.old hne hq.q0, hu.old hne hq.q1, hu.old hne hq.q2, hu.glp hq.gl hb2, hu.ex 4 (by decide) hq.m4, hu.ex 5 (by decide) hq.m5, ⟨_, hu.here⟩, (hu.froz 4).trans hq.n4, (hu.froz 5).trans hq.n5, (hu.froz 6).trans hq.n6, ⟨_, _, _, St.n3 hC hu hp⟩⟩
set_option maxHeartbeats 1000000 in
theorem split_own (s sep : ByteArray) (most : Nat) (w : World) (hg : GlP w) (hs : s.size ≤ 100000) (h1 : 1 ≤ sep.size) (hm : most ≤ 1000) :
    Calls Tryz.prog 51 #[.string s, .string sep, .int .i64 most] w fun e w' => ∃ cap, e = .returned (.slice (some ⟨w.heap.size, 0, none⟩) (splitT s sep most).length cap) ∧ w'.ownsRow w.heap.size 9 1 (.slice (some ⟨w.heap.size, 0, none⟩) (splitT s sep most).length cap) (splitT s sep most).length ((splitT s sep most).map Value.string) ∧ Below w.heap.size w w' := by
  obtain ⟨m, hmx⟩ := hg.mx
  have hI := Tryz.strings_SplitN s sep (most + 1) m w (by omega) hmx h1 (by omega) (by omega)
  have hle : (splitT s sep most).length ≤ min (most + 1) (s.size + 1) := by
    have := Lib.splitB_length_le sep 0 (min (most + 1) (s.size + 1) - 1) s
    unfold splitT
    omega
  have hmx2 : min (most + 1) (s.size + 1) ≤ maxLen := by unfold maxLen; omega
  rw [show ((most + 1 : Nat) : Int) = (most : Int) + 1 by omega] at hI
  change Calls _ _ _ _ (fun e w' => e = .returned (.slice (some ⟨w.heap.size, 0, none⟩) (splitT s sep most).length (min (most + 1) (s.size + 1))) ∧ w' = w.alloc (.cells (Lib.cellsOf (splitT s sep most) (min (most + 1) (s.size + 1))) 9)) at hI
  obtain ⟨L, hL⟩ : ∃ L, splitT s sep most = L := ⟨_, rfl⟩
  obtain ⟨N, hN⟩ : ∃ N, min (most + 1) (s.size + 1) = N := ⟨_, rfl⟩
  rw [hL, hN] at hI
  rw [hL, hN] at hle
  rw [hN] at hmx2
  rw [hL]
  clear hL hN
  go_enter Tryz.func51, Tryz.ntmps51
  go_wp2_with fail
  refine hI.mono ?_
  rintro e w1 ⟨rfl, rfl⟩
  go_wp2_with fail
  go_ret
  refine ⟨_, rfl, ⟨by simp, .inr ⟨w.heap.size, N, _, rfl, Nat.le_refl _, heap_alloc_new w _, hle, hmx2, ?_, ?_⟩⟩, (Below.refl _ _).alloc (Nat.le_refl _) _⟩
  · unfold Lib.cellsOf
    simp; omega
  · unfold Lib.cellsOf
    simp
end Go.Proofs.YtehlnhljpdjppaaGreatDoor
/- The contract of package calendar's parseClock, of three texts, where the first list is none. -/
namespace Go.Proofs.YtehlnhljpdjppaaGreatDoor
open Go.RowKit
set_option maxRecDepth 100000 in
set_option maxHeartbeats 4000000 in
theorem clock31 (s t0 t1 t2 : ByteArray) (b : Nat) (w : World) (hg : GlP w) (hcb : Cb w b) (z0 : t0.size ≤ 100000)
    (hSp : Calls Tryz.prog 51 #[.string s, .string (str1 58), .int .i64 3] w fun e w' => ∃ cap, e = .returned (.slice (some ⟨w.heap.size, 0, none⟩) 3 cap) ∧ w'.ownsRow w.heap.size 9 1 (.slice (some ⟨w.heap.size, 0, none⟩) 3 cap) 3 [.string t0, .string t1, .string t2] ∧ Below w.heap.size w w')
    (o1 : (pNs t0 0 23).isSome = false) :
    Calls Tryz.prog 56 #[.pointer (some ⟨b, 0, none⟩), .string s] w fun e w' => e = .returned (.bool false) ∧ ∃ c1 c2 c3, St w b 4 c1 c2 c3 w' := by
  have o1' : Hid ((pNs t0 0 23).isSome = false) := o1
  clear o1
  obtain ⟨hb2, hcs, hfs⟩ := hcb
  obtain ⟨u1, k1⟩ := hcs 4 (by omega)
  obtain ⟨u2, k2⟩ := hcs 5 (by omega)
  obtain ⟨u3, k3⟩ := hcs 6 (by omega)
  have bl : b < w.heap.size := cell_lt k1
  go_enter Tryz.func56, Tryz.ntmps56
  go_wp2_with fail
  refine hSp.mono ?_
  rintro e w1 ⟨cap, rfl, hown, hbb⟩
  have cc := hown.cells (g := w.heap.size) rfl
  have hgb : w.heap.size ≤ w.heap.size := Nat.le_refl _
  clear hown
  have hg1 := hg.below hbb
  have q0 : w1.cell? ⟨w.heap.size, 0, none⟩ = some (.string t0) := cc 0 _ rfl
  have q1 : w1.cell? ⟨w.heap.size, 1, none⟩ = some (.string t1) := cc 1 _ rfl
  have q2 : w1.cell? ⟨w.heap.size, 2, none⟩ = some (.string t2) := cc 2 _ rfl
  have m1 := (hbb.cell (p := ⟨b, 4, none⟩) bl).trans k1
  have m2 := (hbb.cell (p := ⟨b, 5, none⟩) bl).trans k2
  have m3 := (hbb.cell (p := ⟨b, 6, none⟩) bl).trans k3
  have n1 := (hbb.frozen (p := ⟨b, 4, none⟩) bl).trans (hfs 4)
  have n2 := (hbb.frozen (p := ⟨b, 5, none⟩) bl).trans (hfs 5)
  have n3 := (hbb.frozen (p := ⟨b, 6, none⟩) bl).trans (hfs 6)
  have hne : w.heap.size ≠ b := by omega
  have hC := St.start 4 hbb bl
  clear cc hSp hg k1 k2 k3 bl hbb hcs hfs
  go_wp2_with fail
  have hC0 : QK w b w.heap.size t0 t1 t2 w1.drew := ⟨q0, q1, q2, hg1.below (Below.refl _ _).drew, ⟨_, m1⟩, ⟨_, m2⟩, ⟨_, m3⟩, n1, n2, n3, ⟨none, none, none, hC.drew⟩⟩
  clear q0 q1 q2 m1 m2 m3 n1 n2 n3 hg1 hC
  have hconst : ∀ p : Prop, (∀ w', QK w b w.heap.size t0 t1 t2 w' → p) = p := fun p => propext ⟨fun h => h _ hC0, fun h _ _ => h⟩
  have hC0' : Hid _ := hC0
  clear hC0
  refine region_WQ (C := QK w b w.heap.size t0 t1 t2) (by kernel_rfl) (by kernel_rfl) hC0'.out ?_
  iterate 5 (refine WQ_step (fun K hK => ?_); simp only [SQ_eq]; go_simp; refine hK _ ?_; clear hK K)
  refine WQ_step (fun K hK => ?_)
  simp only [SQ_eq]
  go_simp
  refine Exists.intro (Value.string t0) (And.intro (fun w' hw => (by have h := hw.q0; simp [h])) ?_)
  go_simp
  refine hK _ ?_
  clear hK K
  iterate 1 (refine WQ_step (fun K hK => ?_); simp only [SQ_eq]; go_simp; refine hK _ ?_; clear hK K)
  refine WQ_step (fun K hK => ?_)
  simp only [SQ_eq]
  go_simp
  refine Exists.intro (Value.agg #[.int .i64 0, .int .i64 23]) (And.intro (fun w' hw => (by have h := hw.gl.gl.lim 6 0 rfl; have h2 := hw.gl.gl.lim 7 23 rfl; simp [h, h2])) ?_)
  go_simp
  refine hK _ ?_
  clear hK K
  refine WQ_step (fun K hK => ?_)
  simp only [SQ_eq]
  go_simp
  refine Exists.intro (Value.bool false) (And.intro (fun w' hw => qk1 hb2 hne t0 0 23 false o1'.out z0 hw) ?_)
  go_simp
  refine hK _ ?_
  clear hK K
  iterate 23 (refine WQ_step (fun K hK => ?_); simp only [SQ_eq]; go_simp; refine hK _ ?_; clear hK K)
  refine WQ_nil ?_
  intro w' hw
  obtain ⟨c1, c2, c3, hC'⟩ := hw.st
  go_wp2_with fail
  go_ret
  exact ⟨rfl, c1, c2, c3, hC'⟩
end Go.Proofs.YtehlnhljpdjppaaGreatDoor
/- The contract of package calendar's parseClock, of three texts, where the second list is none. -/
namespace Go.Proofs.YtehlnhljpdjppaaGreatDoor
open Go.RowKit
set_option maxRecDepth 100000 in
set_option maxHeartbeats 4000000 in
theorem clock32 (s t0 t1 t2 : ByteArray) (b : Nat) (w : World) (hg : GlP w) (hcb : Cb w b) (z0 : t0.size ≤ 100000) (z1 : t1.size ≤ 100000)
    (hSp : Calls Tryz.prog 51 #[.string s, .string (str1 58), .int .i64 3] w fun e w' => ∃ cap, e = .returned (.slice (some ⟨w.heap.size, 0, none⟩) 3 cap) ∧ w'.ownsRow w.heap.size 9 1 (.slice (some ⟨w.heap.size, 0, none⟩) 3 cap) 3 [.string t0, .string t1, .string t2] ∧ Below w.heap.size w w')
    (o1 : (pNs t0 0 23).isSome = true) (o2 : (pNs t1 0 59).isSome = false) :
    Calls Tryz.prog 56 #[.pointer (some ⟨b, 0, none⟩), .string s] w fun e w' => e = .returned (.bool false) ∧ ∃ c1 c2 c3, St w b 4 c1 c2 c3 w' := by
  have o1' : Hid ((pNs t0 0 23).isSome = true) := o1
  clear o1
  have o2' : Hid ((pNs t1 0 59).isSome = false) := o2
  clear o2
  obtain ⟨hb2, hcs, hfs⟩ := hcb
  obtain ⟨u1, k1⟩ := hcs 4 (by omega)
  obtain ⟨u2, k2⟩ := hcs 5 (by omega)
  obtain ⟨u3, k3⟩ := hcs 6 (by omega)
  have bl : b < w.heap.size := cell_lt k1
  go_enter Tryz.func56, Tryz.ntmps56
  go_wp2_with fail
  refine hSp.mono ?_
  rintro e w1 ⟨cap, rfl, hown, hbb⟩
  have cc := hown.cells (g := w.heap.size) rfl
  have hgb : w.heap.size ≤ w.heap.size := Nat.le_refl _
  clear hown
  have hg1 := hg.below hbb
  have q0 : w1.cell? ⟨w.heap.size, 0, none⟩ = some (.string t0) := cc 0 _ rfl
  have q1 : w1.cell? ⟨w.heap.size, 1, none⟩ = some (.string t1) := cc 1 _ rfl
  have q2 : w1.cell? ⟨w.heap.size, 2, none⟩ = some (.string t2) := cc 2 _ rfl
  have m1 := (hbb.cell (p := ⟨b, 4, none⟩) bl).trans k1
  have m2 := (hbb.cell (p := ⟨b, 5, none⟩) bl).trans k2
  have m3 := (hbb.cell (p := ⟨b, 6, none⟩) bl).trans k3
  have n1 := (hbb.frozen (p := ⟨b, 4, none⟩) bl).trans (hfs 4)
  have n2 := (hbb.frozen (p := ⟨b, 5, none⟩) bl).trans (hfs 5)
  have n3 := (hbb.frozen (p := ⟨b, 6, none⟩) bl).trans (hfs 6)
  have hne : w.heap.size ≠ b := by omega
  have hC := St.start 4 hbb bl
  clear cc hSp hg k1 k2 k3 bl hbb hcs hfs
  go_wp2_with fail
  have hC0 : QK w b w.heap.size t0 t1 t2 w1.drew := ⟨q0, q1, q2, hg1.below (Below.refl _ _).drew, ⟨_, m1⟩, ⟨_, m2⟩, ⟨_, m3⟩, n1, n2, n3, ⟨none, none, none, hC.drew⟩⟩
  clear q0 q1 q2 m1 m2 m3 n1 n2 n3 hg1 hC
  have hconst : ∀ p : Prop, (∀ w', QK w b w.heap.size t0 t1 t2 w' → p) = p := fun p => propext ⟨fun h => h _ hC0, fun h _ _ => h⟩
  have hC0' : Hid _ := hC0
  clear hC0
  refine region_WQ (C := QK w b w.heap.size t0 t1 t2) (by kernel_rfl) (by kernel_rfl) hC0'.out ?_
  iterate 5 (refine WQ_step (fun K hK => ?_); simp only [SQ_eq]; go_simp; refine hK _ ?_; clear hK K)
  refine WQ_step (fun K hK => ?_)
  simp only [SQ_eq]
  go_simp
  refine Exists.intro (Value.string t0) (And.intro (fun w' hw => (by have h := hw.q0; simp [h])) ?_)
  go_simp
  refine hK _ ?_
  clear hK K
  iterate 1 (refine WQ_step (fun K hK => ?_); simp only [SQ_eq]; go_simp; refine hK _ ?_; clear hK K)
  refine WQ_step (fun K hK => ?_)
  simp only [SQ_eq]
  go_simp
  refine Exists.intro (Value.agg #[.int .i64 0, .int .i64 23]) (And.intro (fun w' hw => (by have h := hw.gl.gl.lim 6 0 rfl; have h2 := hw.gl.gl.lim 7 23 rfl; simp [h, h2])) ?_)
  go_simp
  refine hK _ ?_
  clear hK K
  refine WQ_step (fun K hK => ?_)
  simp only [SQ_eq]
  go_simp
  refine Exists.intro (Value.bool true) (And.intro (fun w' hw => qk1 hb2 hne t0 0 23 true o1'.out z0 hw) ?_)
  go_simp
  refine hK _ ?_
  clear hK K
  iterate 6 (refine WQ_step (fun K hK => ?_); simp only [SQ_eq]; go_simp; refine hK _ ?_; clear hK K)
  refine WQ_step (fun K hK => ?_)
  simp only [SQ_eq]
  go_simp
  refine Exists.intro (Value.string t1) (And.intro (fun w' hw => (by have h := hw.q1; simp [h])) ?_)
  go_simp
  refine hK _ ?_
  clear hK K
  iterate 1 (refine WQ_step (fun K hK => ?_); simp only [SQ_eq]; go_simp; refine hK _ ?_; clear hK K)
  refine WQ_step (fun K hK => ?_)
  simp only [SQ_eq]
  go_simp
  refine Exists.intro (Value.agg #[.int .i64 0, .int .i64 59]) (And.intro (fun w' hw => (by have h := hw.gl.gl.lim 8 0 rfl; have h2 := hw.gl.gl.lim 9 59 rfl; simp [h, h2])) ?_)
  go_simp
  refine hK _ ?_
  clear hK K
  refine WQ_step (fun K hK => ?_)
  simp only [SQ_eq]
  go_simp
  refine Exists.intro (Value.bool false) (And.intro (fun w' hw => qk2 hb2 hne t1 0 59 false o2'.out z1 hw) ?_)
  go_simp
  refine hK _ ?_
  clear hK K
  iterate 13 (refine WQ_step (fun K hK => ?_); simp only [SQ_eq]; go_simp; refine hK _ ?_; clear hK K)
  refine WQ_nil ?_
  intro w' hw
  obtain ⟨c1, c2, c3, hC'⟩ := hw.st
  go_wp2_with fail
  go_ret
  exact ⟨rfl, c1, c2, c3, hC'⟩
end Go.Proofs.YtehlnhljpdjppaaGreatDoor
/- The contract of package calendar's parseClock, of three texts, where the first two are some. -/
namespace Go.Proofs.YtehlnhljpdjppaaGreatDoor
open Go.RowKit
set_option maxRecDepth 100000 in
set_option maxHeartbeats 4000000 in
theorem clock33 (s t0 t1 t2 : ByteArray) (b : Nat) (w : World) (hg : GlP w) (hcb : Cb w b) (z0 : t0.size ≤ 100000) (z1 : t1.size ≤ 100000) (z2 : t2.size ≤ 100000)
    (hSp : Calls Tryz.prog 51 #[.string s, .string (str1 58), .int .i64 3] w fun e w' => ∃ cap, e = .returned (.slice (some ⟨w.heap.size, 0, none⟩) 3 cap) ∧ w'.ownsRow w.heap.size 9 1 (.slice (some ⟨w.heap.size, 0, none⟩) 3 cap) 3 [.string t0, .string t1, .string t2] ∧ Below w.heap.size w w')
    (o1 : (pNs t0 0 23).isSome = true) (o2 : (pNs t1 0 59).isSome = true) :
    Calls Tryz.prog 56 #[.pointer (some ⟨b, 0, none⟩), .string s] w fun e w' => e = .returned (.bool (pNs t2 0 59).isSome) ∧ St w b 4 (some ((pNs t0 0 23).getD [])) (some ((pNs t1 0 59).getD [])) (some ((pNs t2 0 59).getD [])) w' := by
  obtain ⟨hb2, hcs, hfs⟩ := hcb
  obtain ⟨u1, k1⟩ := hcs 4 (by omega)
  obtain ⟨u2, k2⟩ := hcs 5 (by omega)
  obtain ⟨u3, k3⟩ := hcs 6 (by omega)
  have bl : b < w.heap.size := cell_lt k1
  go_enter Tryz.func56, Tryz.ntmps56
  go_wp2_with fail
  refine hSp.mono ?_
  rintro e w1 ⟨cap, rfl, hown, hbb⟩
  have cc := hown.cells (g := w.heap.size) rfl
  have hgb : w.heap.size ≤ w.heap.size := Nat.le_refl _
  clear hown
  have hg1 := hg.below hbb
  have q0 : w1.cell? ⟨w.heap.size, 0, none⟩ = some (.string t0) := cc 0 _ rfl
  have q1 : w1.cell? ⟨w.heap.size, 1, none⟩ = some (.string t1) := cc 1 _ rfl
  have q2 : w1.cell? ⟨w.heap.size, 2, none⟩ = some (.string t2) := cc 2 _ rfl
  have m1 := (hbb.cell (p := ⟨b, 4, none⟩) bl).trans k1
  have m2 := (hbb.cell (p := ⟨b, 5, none⟩) bl).trans k2
  have m3 := (hbb.cell (p := ⟨b, 6, none⟩) bl).trans k3
  have n1 := (hbb.frozen (p := ⟨b, 4, none⟩) bl).trans (hfs 4)
  have n2 := (hbb.frozen (p := ⟨b, 5, none⟩) bl).trans (hfs 5)
  have n3 := (hbb.frozen (p := ⟨b, 6, none⟩) bl).trans (hfs 6)
  have hne : w.heap.size ≠ b := by omega
  have hC := St.start 4 hbb bl
  have l0 := hg1.gl.lim 6 0 rfl
  have l1 := hg1.gl.lim 7 23 rfl
  have l2 := hg1.gl.lim 8 0 rfl
  have l3 := hg1.gl.lim 9 59 rfl
  have l4 := hg1.gl.lim 10 0 rfl
  have l5 := hg1.gl.lim 11 59 rfl
  clear cc hSp hg k1 k2 k3 bl hbb hcs hfs
  go_wp2_with fail
  go_region_held3 (fun w' => w'.cell? ⟨w.heap.size, 0, none⟩ = some (.string t0) ∧ w'.cell? ⟨w.heap.size, 1, none⟩ = some (.string t1) ∧ w'.cell? ⟨w.heap.size, 2, none⟩ = some (.string t2) ∧ w'.cell? ⟨0, 6, none⟩ = some (.int .i64 0) ∧ w'.cell? ⟨0, 7, none⟩ = some (.int .i64 23) ∧ w'.cell? ⟨0, 8, none⟩ = some (.int .i64 0) ∧ w'.cell? ⟨0, 9, none⟩ = some (.int .i64 59) ∧ w'.cell? ⟨0, 10, none⟩ = some (.int .i64 0) ∧ w'.cell? ⟨0, 11, none⟩ = some (.int .i64 59))
    (first
      | assumption
      | exact hS
      | (refine ⟨?_, ?_, ?_, ?_, ?_, ?_, ?_, ?_, ?_⟩ <;> assumption)
      | (go_split_ands; refine ⟨?_, ?_, ?_, ?_, ?_, ?_, ?_, ?_, ?_⟩ <;> assumption))
    (first
      | (go_at_call 76; refine (pn2 _ _ _ b _ _ _ (by first | exact Or.inl rfl | exact Or.inr rfl) hg1 (by assumption) (by first | exact ⟨_, m1⟩ | exact ⟨_, m2⟩ | exact ⟨_, m3⟩) (by first | exact n1 | exact n2 | exact n3)).mono ?_; rintro e w2 ⟨he, sl, hu, hp⟩; (try rw [o1] at he); (try rw [o2] at he); subst he; replace hg1 := hu.glp hg1 hb2; (try replace m1 := (hu.cell 4 (by decide)).trans m1); (try replace m2 := (hu.cell 5 (by decide)).trans m2); (try replace m3 := (hu.cell 6 (by decide)).trans m3); replace n1 := (hu.froz 4).trans n1; replace n2 := (hu.froz 5).trans n2; replace n3 := (hu.froz 6).trans n3; replace q0 := hu.old hne q0; replace q1 := hu.old hne q1; replace q2 := hu.old hne q2; have hS := And.intro q0 (And.intro q1 (And.intro q2 (And.intro (hg1.gl.lim 6 0 rfl) (And.intro (hg1.gl.lim 7 23 rfl) (And.intro (hg1.gl.lim 8 0 rfl) (And.intro (hg1.gl.lim 9 59 rfl) (And.intro (hg1.gl.lim 10 0 rfl) (hg1.gl.lim 11 59 rfl)))))))); (first | replace hC := St.n1 hC hu hp | replace hC := St.n2 hC hu hp | replace hC := St.n3 hC hu hp); clear hu hp))
  go_wp2_with fail
  go_ret
  exact ⟨rfl, (by first | exact hC | exact hC.drew)⟩
end Go.Proofs.YtehlnhljpdjppaaGreatDoor
/- A row of three. -/
namespace Go.Proofs.YtehlnhljpdjppaaGreatDoor
open Go.RowKit
theorem infoS : (Tryz.prog.info? 9).map (fun i => (i.zero, i.size, i.bytes)) = some (some (.string ⟨#[]⟩), 1, 16) := by kernel_rfl
theorem own3 {w : World} {base : Nat} {t : TypeId} {v : Value} {xs : List Value} (h : w.ownsRow base t 1 v (2 + 1) xs) : ∃ g cap, v = .slice (some ⟨g, 0, none⟩) 3 cap := by
  rcases h.2 with ⟨_, h0⟩ | ⟨g, cap, cur, rfl, _⟩
  · omega
  · exact ⟨g, cap, rfl⟩
end Go.Proofs.YtehlnhljpdjppaaGreatDoor
/- The contract of package calendar's parseClock, of two texts, where the first list is none. -/
namespace Go.Proofs.YtehlnhljpdjppaaGreatDoor
open Go.RowKit
set_option maxRecDepth 100000 in
set_option maxHeartbeats 4000000 in
theorem clock21 (s t0 t1 : ByteArray) (b : Nat) (w : World) (hg : GlP w) (hcb : Cb w b) (z0 : t0.size ≤ 100000)
    (hSp : Calls Tryz.prog 51 #[.string s, .string (str1 58), .int .i64 3] w fun e w' => ∃ cap, e = .returned (.slice (some ⟨w.heap.size, 0, none⟩) 2 cap) ∧ w'.ownsRow w.heap.size 9 1 (.slice (some ⟨w.heap.size, 0, none⟩) 2 cap) 2 [.string t0, .string t1] ∧ Below w.heap.size w w')
    (o1 : (pNs t0 0 23).isSome = false) :
    Calls Tryz.prog 56 #[.pointer (some ⟨b, 0, none⟩), .string s] w fun e w' => e = .returned (.bool false) ∧ ∃ c1 c2 c3, St w b 4 c1 c2 c3 w' := by
  have o1' : Hid ((pNs t0 0 23).isSome = false) := o1
  clear o1
  obtain ⟨i0, hinf, hz0, hz1, hz2⟩ := info_parts infoS
  obtain ⟨t2, ht2⟩ : ∃ t2 : ByteArray, t2 = ⟨#[48, 48]⟩ := ⟨_, rfl⟩
  obtain ⟨hb2, hcs, hfs⟩ := hcb
  obtain ⟨u1, k1⟩ := hcs 4 (by omega)
  obtain ⟨u2, k2⟩ := hcs 5 (by omega)
  obtain ⟨u3, k3⟩ := hcs 6 (by omega)
  have bl : b < w.heap.size := cell_lt k1
  go_enter Tryz.func56, Tryz.ntmps56
  go_wp2_with fail
  refine hSp.mono ?_
  rintro e w1 ⟨cap, rfl, hown, hbb⟩
  have T2 : Hid (t2 = ⟨#[48, 48]⟩) := ht2
  clear ht2
  have hw1 := hbb.size
  go_wp2_with (at_builtin; refine wpList_append_own_at _ rfl _ _ 90 rfl w.heap.size 9 i0 (.string ⟨#[]⟩) 1 16 Tryz.underlying90 hinf hz0 hz1 hz2 rfl (by decide) _ 2 [.string t0, .string t1] rfl (hown.alloc _) ⟨_, 0, none⟩ 1 1 [.string ⟨#[48, 48]⟩] rfl rfl (World.news_of_block (cs := #[.string ⟨#[48, 48]⟩]) (t := 9) (fr := (0, 0)) (heap_alloc_new _ _)) (fun x hx => by simp at hx; subst hx; rfl) (by unfold maxLen; omega) (by omega) (by simp; omega) ?_; intro v' w3 hown' hgrow _ _; obtain ⟨g, cap', rfl⟩ := own3 hown')
  have hbb3 : Below w.heap.size w w3 := (hbb.alloc (by simpa using hw1) _).grown hgrow (by simp; omega) (fun k e => (hown.lt k e).1)
  have cc := hown'.cells (g := g) rfl
  have hgb : w.heap.size ≤ g := (hown'.lt g rfl).1
  rw [← T2.out] at cc
  clear hown hown' hgrow
  replace hbb := hbb3
  clear hbb3
  have hg1 := hg.below hbb
  have q0 : w3.cell? ⟨g, 0, none⟩ = some (.string t0) := cc 0 _ rfl
  have q1 : w3.cell? ⟨g, 1, none⟩ = some (.string t1) := cc 1 _ rfl
  have q2 : w3.cell? ⟨g, 2, none⟩ = some (.string t2) := cc 2 _ rfl
  have m1 := (hbb.cell (p := ⟨b, 4, none⟩) bl).trans k1
  have m2 := (hbb.cell (p := ⟨b, 5, none⟩) bl).trans k2
  have m3 := (hbb.cell (p := ⟨b, 6, none⟩) bl).trans k3
  have n1 := (hbb.frozen (p := ⟨b, 4, none⟩) bl).trans (hfs 4)
  have n2 := (hbb.frozen (p := ⟨b, 5, none⟩) bl).trans (hfs 5)
  have n3 := (hbb.frozen (p := ⟨b, 6, none⟩) bl).trans (hfs 6)
  have hne : g ≠ b := by omega
  have hC := St.start 4 hbb bl
  clear cc hSp hg k1 k2 k3 bl hbb hcs hfs
  have hC0 : QK w b g t0 t1 t2 w3.drew := ⟨q0, q1, q2, hg1.below (Below.refl _ _).drew, ⟨_, m1⟩, ⟨_, m2⟩, ⟨_, m3⟩, n1, n2, n3, ⟨none, none, none, hC.drew⟩⟩
  clear q0 q1 q2 m1 m2 m3 n1 n2 n3 hg1 hC
  have hconst : ∀ p : Prop, (∀ w', QK w b g t0 t1 t2 w' → p) = p := fun p => propext ⟨fun h => h _ hC0, fun h _ _ => h⟩
  have hC0' : Hid _ := hC0
  clear hC0
  refine region_WQ (C := QK w b g t0 t1 t2) (by kernel_rfl) (by kernel_rfl) hC0'.out ?_
  iterate 5 (refine WQ_step (fun K hK => ?_); simp only [SQ_eq]; go_simp; refine hK _ ?_; clear hK K)
  refine WQ_step (fun K hK => ?_)
  simp only [SQ_eq]
  go_simp
  refine Exists.intro (Value.string t0) (And.intro (fun w' hw => (by have h := hw.q0; simp [h])) ?_)
  go_simp
  refine hK _ ?_
  clear hK K
  iterate 1 (refine WQ_step (fun K hK => ?_); simp only [SQ_eq]; go_simp; refine hK _ ?_; clear hK K)
  refine WQ_step (fun K hK => ?_)
  simp only [SQ_eq]
  go_simp
  refine Exists.intro (Value.agg #[.int .i64 0, .int .i64 23]) (And.intro (fun w' hw => (by have h := hw.gl.gl.lim 6 0 rfl; have h2 := hw.gl.gl.lim 7 23 rfl; simp [h, h2])) ?_)
  go_simp
  refine hK _ ?_
  clear hK K
  refine WQ_step (fun K hK => ?_)
  simp only [SQ_eq]
  go_simp
  refine Exists.intro (Value.bool false) (And.intro (fun w' hw => qk1 hb2 hne t0 0 23 false o1'.out z0 hw) ?_)
  go_simp
  refine hK _ ?_
  clear hK K
  iterate 23 (refine WQ_step (fun K hK => ?_); simp only [SQ_eq]; go_simp; refine hK _ ?_; clear hK K)
  refine WQ_nil ?_
  intro w' hw
  obtain ⟨c1, c2, c3, hC'⟩ := hw.st
  go_wp2_with fail
  go_ret
  exact ⟨rfl, c1, c2, c3, hC'⟩
end Go.Proofs.YtehlnhljpdjppaaGreatDoor
/- The contract of package calendar's parseClock, of two texts, where the second list is none. -/
namespace Go.Proofs.YtehlnhljpdjppaaGreatDoor
open Go.RowKit
set_option maxRecDepth 100000 in
set_option maxHeartbeats 4000000 in
theorem clock22 (s t0 t1 : ByteArray) (b : Nat) (w : World) (hg : GlP w) (hcb : Cb w b) (z0 : t0.size ≤ 100000) (z1 : t1.size ≤ 100000)
    (hSp : Calls Tryz.prog 51 #[.string s, .string (str1 58), .int .i64 3] w fun e w' => ∃ cap, e = .returned (.slice (some ⟨w.heap.size, 0, none⟩) 2 cap) ∧ w'.ownsRow w.heap.size 9 1 (.slice (some ⟨w.heap.size, 0, none⟩) 2 cap) 2 [.string t0, .string t1] ∧ Below w.heap.size w w')
    (o1 : (pNs t0 0 23).isSome = true) (o2 : (pNs t1 0 59).isSome = false) :
    Calls Tryz.prog 56 #[.pointer (some ⟨b, 0, none⟩), .string s] w fun e w' => e = .returned (.bool false) ∧ ∃ c1 c2 c3, St w b 4 c1 c2 c3 w' := by
  have o1' : Hid ((pNs t0 0 23).isSome = true) := o1
  clear o1
  have o2' : Hid ((pNs t1 0 59).isSome = false) := o2
  clear o2
  obtain ⟨i0, hinf, hz0, hz1, hz2⟩ := info_parts infoS
  obtain ⟨t2, ht2⟩ : ∃ t2 : ByteArray, t2 = ⟨#[48, 48]⟩ := ⟨_, rfl⟩
  obtain ⟨hb2, hcs, hfs⟩ := hcb
  obtain ⟨u1, k1⟩ := hcs 4 (by omega)
  obtain ⟨u2, k2⟩ := hcs 5 (by omega)
  obtain ⟨u3, k3⟩ := hcs 6 (by omega)
  have bl : b < w.heap.size := cell_lt k1
  go_enter Tryz.func56, Tryz.ntmps56
  go_wp2_with fail
  refine hSp.mono ?_
  rintro e w1 ⟨cap, rfl, hown, hbb⟩
  have T2 : Hid (t2 = ⟨#[48, 48]⟩) := ht2
  clear ht2
  have hw1 := hbb.size
  go_wp2_with (at_builtin; refine wpList_append_own_at _ rfl _ _ 90 rfl w.heap.size 9 i0 (.string ⟨#[]⟩) 1 16 Tryz.underlying90 hinf hz0 hz1 hz2 rfl (by decide) _ 2 [.string t0, .string t1] rfl (hown.alloc _) ⟨_, 0, none⟩ 1 1 [.string ⟨#[48, 48]⟩] rfl rfl (World.news_of_block (cs := #[.string ⟨#[48, 48]⟩]) (t := 9) (fr := (0, 0)) (heap_alloc_new _ _)) (fun x hx => by simp at hx; subst hx; rfl) (by unfold maxLen; omega) (by omega) (by simp; omega) ?_; intro v' w3 hown' hgrow _ _; obtain ⟨g, cap', rfl⟩ := own3 hown')
  have hbb3 : Below w.heap.size w w3 := (hbb.alloc (by simpa using hw1) _).grown hgrow (by simp; omega) (fun k e => (hown.lt k e).1)
  have cc := hown'.cells (g := g) rfl
  have hgb : w.heap.size ≤ g := (hown'.lt g rfl).1
  rw [← T2.out] at cc
  clear hown hown' hgrow
  replace hbb := hbb3
  clear hbb3
  have hg1 := hg.below hbb
  have q0 : w3.cell? ⟨g, 0, none⟩ = some (.string t0) := cc 0 _ rfl
  have q1 : w3.cell? ⟨g, 1, none⟩ = some (.string t1) := cc 1 _ rfl
  have q2 : w3.cell? ⟨g, 2, none⟩ = some (.string t2) := cc 2 _ rfl
  have m1 := (hbb.cell (p := ⟨b, 4, none⟩) bl).trans k1
  have m2 := (hbb.cell (p := ⟨b, 5, none⟩) bl).trans k2
  have m3 := (hbb.cell (p := ⟨b, 6, none⟩) bl).trans k3
  have n1 := (hbb.frozen (p := ⟨b, 4, none⟩) bl).trans (hfs 4)
  have n2 := (hbb.frozen (p := ⟨b, 5, none⟩) bl).trans (hfs 5)
  have n3 := (hbb.frozen (p := ⟨b, 6, none⟩) bl).trans (hfs 6)
  have hne : g ≠ b := by omega
  have hC := St.start 4 hbb bl
  clear cc hSp hg k1 k2 k3 bl hbb hcs hfs
  have hC0 : QK w b g t0 t1 t2 w3.drew := ⟨q0, q1, q2, hg1.below (Below.refl _ _).drew, ⟨_, m1⟩, ⟨_, m2⟩, ⟨_, m3⟩, n1, n2, n3, ⟨none, none, none, hC.drew⟩⟩
  clear q0 q1 q2 m1 m2 m3 n1 n2 n3 hg1 hC
  have hconst : ∀ p : Prop, (∀ w', QK w b g t0 t1 t2 w' → p) = p := fun p => propext ⟨fun h => h _ hC0, fun h _ _ => h⟩
  have hC0' : Hid _ := hC0
  clear hC0
  refine region_WQ (C := QK w b g t0 t1 t2) (by kernel_rfl) (by kernel_rfl) hC0'.out ?_
  iterate 5 (refine WQ_step (fun K hK => ?_); simp only [SQ_eq]; go_simp; refine hK _ ?_; clear hK K)
  refine WQ_step (fun K hK => ?_)
  simp only [SQ_eq]
  go_simp
  refine Exists.intro (Value.string t0) (And.intro (fun w' hw => (by have h := hw.q0; simp [h])) ?_)
  go_simp
  refine hK _ ?_
  clear hK K
  iterate 1 (refine WQ_step (fun K hK => ?_); simp only [SQ_eq]; go_simp; refine hK _ ?_; clear hK K)
  refine WQ_step (fun K hK => ?_)
  simp only [SQ_eq]
  go_simp
  refine Exists.intro (Value.agg #[.int .i64 0, .int .i64 23]) (And.intro (fun w' hw => (by have h := hw.gl.gl.lim 6 0 rfl; have h2 := hw.gl.gl.lim 7 23 rfl; simp [h, h2])) ?_)
  go_simp
  refine hK _ ?_
  clear hK K
  refine WQ_step (fun K hK => ?_)
  simp only [SQ_eq]
  go_simp
  refine Exists.intro (Value.bool true) (And.intro (fun w' hw => qk1 hb2 hne t0 0 23 true o1'.out z0 hw) ?_)
  go_simp
  refine hK _ ?_
  clear hK K
  iterate 6 (refine WQ_step (fun K hK => ?_); simp only [SQ_eq]; go_simp; refine hK _ ?_; clear hK K)
  refine WQ_step (fun K hK => ?_)
  simp only [SQ_eq]
  go_simp
  refine Exists.intro (Value.string t1) (And.intro (fun w' hw => (by have h := hw.q1; simp [h])) ?_)
  go_simp
  refine hK _ ?_
  clear hK K
  iterate 1 (refine WQ_step (fun K hK => ?_); simp only [SQ_eq]; go_simp; refine hK _ ?_; clear hK K)
  refine WQ_step (fun K hK => ?_)
  simp only [SQ_eq]
  go_simp
  refine Exists.intro (Value.agg #[.int .i64 0, .int .i64 59]) (And.intro (fun w' hw => (by have h := hw.gl.gl.lim 8 0 rfl; have h2 := hw.gl.gl.lim 9 59 rfl; simp [h, h2])) ?_)
  go_simp
  refine hK _ ?_
  clear hK K
  refine WQ_step (fun K hK => ?_)
  simp only [SQ_eq]
  go_simp
  refine Exists.intro (Value.bool false) (And.intro (fun w' hw => qk2 hb2 hne t1 0 59 false o2'.out z1 hw) ?_)
  go_simp
  refine hK _ ?_
  clear hK K
  iterate 13 (refine WQ_step (fun K hK => ?_); simp only [SQ_eq]; go_simp; refine hK _ ?_; clear hK K)
  refine WQ_nil ?_
  intro w' hw
  obtain ⟨c1, c2, c3, hC'⟩ := hw.st
  go_wp2_with fail
  go_ret
  exact ⟨rfl, c1, c2, c3, hC'⟩
end Go.Proofs.YtehlnhljpdjppaaGreatDoor
/- The contract of package calendar's parseClock, of two texts, where the first two are some. -/
namespace Go.Proofs.YtehlnhljpdjppaaGreatDoor
open Go.RowKit
set_option maxRecDepth 100000 in
set_option maxHeartbeats 4000000 in
theorem clock23 (s t0 t1 : ByteArray) (b : Nat) (w : World) (hg : GlP w) (hcb : Cb w b) (z0 : t0.size ≤ 100000) (z1 : t1.size ≤ 100000)
    (hSp : Calls Tryz.prog 51 #[.string s, .string (str1 58), .int .i64 3] w fun e w' => ∃ cap, e = .returned (.slice (some ⟨w.heap.size, 0, none⟩) 2 cap) ∧ w'.ownsRow w.heap.size 9 1 (.slice (some ⟨w.heap.size, 0, none⟩) 2 cap) 2 [.string t0, .string t1] ∧ Below w.heap.size w w')
    (o1 : (pNs t0 0 23).isSome = true) (o2 : (pNs t1 0 59).isSome = true) :
    Calls Tryz.prog 56 #[.pointer (some ⟨b, 0, none⟩), .string s] w fun e w' => e = .returned (.bool (pNs (⟨#[48, 48]⟩ : ByteArray) 0 59).isSome) ∧ St w b 4 (some ((pNs t0 0 23).getD [])) (some ((pNs t1 0 59).getD [])) (some ((pNs (⟨#[48, 48]⟩ : ByteArray) 0 59).getD [])) w' := by
  obtain ⟨i0, hinf, hz0, hz1, hz2⟩ := info_parts infoS
  obtain ⟨t2, ht2⟩ : ∃ t2 : ByteArray, t2 = ⟨#[48, 48]⟩ := ⟨_, rfl⟩
  rw [← ht2]
  have z2 : t2.size ≤ 100000 := by rw [ht2]; decide
  obtain ⟨hb2, hcs, hfs⟩ := hcb
  obtain ⟨u1, k1⟩ := hcs 4 (by omega)
  obtain ⟨u2, k2⟩ := hcs 5 (by omega)
  obtain ⟨u3, k3⟩ := hcs 6 (by omega)
  have bl : b < w.heap.size := cell_lt k1
  go_enter Tryz.func56, Tryz.ntmps56
  go_wp2_with fail
  refine hSp.mono ?_
  rintro e w1 ⟨cap, rfl, hown, hbb⟩
  have T2 : Hid (t2 = ⟨#[48, 48]⟩) := ht2
  clear ht2
  have hw1 := hbb.size
  go_wp2_with (at_builtin; refine wpList_append_own_at _ rfl _ _ 90 rfl w.heap.size 9 i0 (.string ⟨#[]⟩) 1 16 Tryz.underlying90 hinf hz0 hz1 hz2 rfl (by decide) _ 2 [.string t0, .string t1] rfl (hown.alloc _) ⟨_, 0, none⟩ 1 1 [.string ⟨#[48, 48]⟩] rfl rfl (World.news_of_block (cs := #[.string ⟨#[48, 48]⟩]) (t := 9) (fr := (0, 0)) (heap_alloc_new _ _)) (fun x hx => by simp at hx; subst hx; rfl) (by unfold maxLen; omega) (by omega) (by simp; omega) ?_; intro v' w3 hown' hgrow _ _; obtain ⟨g, cap', rfl⟩ := own3 hown')
  have hbb3 : Below w.heap.size w w3 := (hbb.alloc (by simpa using hw1) _).grown hgrow (by simp; omega) (fun k e => (hown.lt k e).1)
  have cc := hown'.cells (g := g) rfl
  have hgb : w.heap.size ≤ g := (hown'.lt g rfl).1
  rw [← T2.out] at cc
  clear hown hown' hgrow
  replace hbb := hbb3
  clear hbb3
  have hg1 := hg.below hbb
  have q0 : w3.cell? ⟨g, 0, none⟩ = some (.string t0) := cc 0 _ rfl
  have q1 : w3.cell? ⟨g, 1, none⟩ = some (.string t1) := cc 1 _ rfl
  have q2 : w3.cell? ⟨g, 2, none⟩ = some (.string t2) := cc 2 _ rfl
  have m1 := (hbb.cell (p := ⟨b, 4, none⟩) bl).trans k1
  have m2 := (hbb.cell (p := ⟨b, 5, none⟩) bl).trans k2
  have m3 := (hbb.cell (p := ⟨b, 6, none⟩) bl).trans k3
  have n1 := (hbb.frozen (p := ⟨b, 4, none⟩) bl).trans (hfs 4)
  have n2 := (hbb.frozen (p := ⟨b, 5, none⟩) bl).trans (hfs 5)
  have n3 := (hbb.frozen (p := ⟨b, 6, none⟩) bl).trans (hfs 6)
  have hne : g ≠ b := by omega
  have hC := St.start 4 hbb bl
  have l0 := hg1.gl.lim 6 0 rfl
  have l1 := hg1.gl.lim 7 23 rfl
  have l2 := hg1.gl.lim 8 0 rfl
  have l3 := hg1.gl.lim 9 59 rfl
  have l4 := hg1.gl.lim 10 0 rfl
  have l5 := hg1.gl.lim 11 59 rfl
  clear cc hSp hg k1 k2 k3 bl hbb hcs hfs
  go_region_held3 (fun w' => w'.cell? ⟨g, 0, none⟩ = some (.string t0) ∧ w'.cell? ⟨g, 1, none⟩ = some (.string t1) ∧ w'.cell? ⟨g, 2, none⟩ = some (.string t2) ∧ w'.cell? ⟨0, 6, none⟩ = some (.int .i64 0) ∧ w'.cell? ⟨0, 7, none⟩ = some (.int .i64 23) ∧ w'.cell? ⟨0, 8, none⟩ = some (.int .i64 0) ∧ w'.cell? ⟨0, 9, none⟩ = some (.int .i64 59) ∧ w'.cell? ⟨0, 10, none⟩ = some (.int .i64 0) ∧ w'.cell? ⟨0, 11, none⟩ = some (.int .i64 59))
    (first
      | assumption
      | exact hS
      | (refine ⟨?_, ?_, ?_, ?_, ?_, ?_, ?_, ?_, ?_⟩ <;> assumption)
      | (go_split_ands; refine ⟨?_, ?_, ?_, ?_, ?_, ?_, ?_, ?_, ?_⟩ <;> assumption))
    (first
      | (go_at_call 76; refine (pn2 _ _ _ b _ _ _ (by first | exact Or.inl rfl | exact Or.inr rfl) hg1 (by assumption) (by first | exact ⟨_, m1⟩ | exact ⟨_, m2⟩ | exact ⟨_, m3⟩) (by first | exact n1 | exact n2 | exact n3)).mono ?_; rintro e w2 ⟨he, sl, hu, hp⟩; (try rw [o1] at he); (try rw [o2] at he); subst he; replace hg1 := hu.glp hg1 hb2; (try replace m1 := (hu.cell 4 (by decide)).trans m1); (try replace m2 := (hu.cell 5 (by decide)).trans m2); (try replace m3 := (hu.cell 6 (by decide)).trans m3); replace n1 := (hu.froz 4).trans n1; replace n2 := (hu.froz 5).trans n2; replace n3 := (hu.froz 6).trans n3; replace q0 := hu.old hne q0; replace q1 := hu.old hne q1; replace q2 := hu.old hne q2; have hS := And.intro q0 (And.intro q1 (And.intro q2 (And.intro (hg1.gl.lim 6 0 rfl) (And.intro (hg1.gl.lim 7 23 rfl) (And.intro (hg1.gl.lim 8 0 rfl) (And.intro (hg1.gl.lim 9 59 rfl) (And.intro (hg1.gl.lim 10 0 rfl) (hg1.gl.lim 11 59 rfl)))))))); (first | replace hC := St.n1 hC hu hp | replace hC := St.n2 hC hu hp | replace hC := St.n3 hC hu hp); clear hu hp))
  go_wp2_with fail
  go_ret
  exact ⟨rfl, (by first | exact hC | exact hC.drew)⟩
end Go.Proofs.YtehlnhljpdjppaaGreatDoor
/- The contract of package calendar's parseClock. -/
namespace Go.Proofs.YtehlnhljpdjppaaGreatDoor
open Go.RowKit
def fill (l : List ByteArray) : List ByteArray := if l.length = 2 then l ++ [⟨#[48, 48]⟩] else l
def pC (s : ByteArray) : Option (List Part × List Part × List Part) := p3L (fill (splitT s (str1 58) 3)) 0 23 0 59 0 59
theorem told3 {t0 t1 t2 : ByteArray} {b o : Nat} {w : World} {e : Ending} {w' : World} (o1 : (pNs t0 0 23).isSome = true) (o2 : (pNs t1 0 59).isSome = true)
    (h : e = .returned (.bool (pNs t2 0 59).isSome) ∧ St w b o (some ((pNs t0 0 23).getD [])) (some ((pNs t1 0 59).getD [])) (some ((pNs t2 0 59).getD [])) w') :
    e = .returned (.bool (p3L [t0, t1, t2] 0 23 0 59 0 59).isSome) ∧ Told (p3L [t0, t1, t2] 0 23 0 59 0 59) b o w w' := by
  obtain ⟨x0, e0⟩ := Option.isSome_iff_exists.1 o1
  obtain ⟨x1, e1⟩ := Option.isSome_iff_exists.1 o2
  have hN : p3L [t0, t1, t2] 0 23 0 59 0 59 = (pNs t2 0 59).map fun p => ((pNs t0 0 23).getD [], (pNs t1 0 59).getD [], p) := by
    show ((pNs t0 0 23).bind fun r => (pNs t1 0 59).bind fun q => (pNs t2 0 59).map fun p => (r, q, p)) = _
    rw [e0, e1]; rfl
  rw [hN]
  refine ⟨by rw [h.1, Option.isSome_map], _, _, _, h.2, fun x y z e => ?_⟩
  cases hz : pNs t2 0 59 with
  | none => rw [hz] at e; cases e
  | some p => rw [hz] at e; cases e; exact ⟨rfl, rfl, rfl⟩
theorem told1 {t0 t1 t2 : ByteArray} {b o : Nat} {w : World} {e : Ending} {w' : World} (h0 : (pNs t0 0 23).isSome = false ∨ (pNs t1 0 59).isSome = false)
    (h : e = .returned (.bool false) ∧ ∃ c1 c2 c3, St w b o c1 c2 c3 w') :
    e = .returned (.bool (p3L [t0, t1, t2] 0 23 0 59 0 59).isSome) ∧ Told (p3L [t0, t1, t2] 0 23 0 59 0 59) b o w w' := by
  have hN : p3L [t0, t1, t2] 0 23 0 59 0 59 = none := by
    show ((pNs t0 0 23).bind fun r => (pNs t1 0 59).bind fun q => (pNs t2 0 59).map fun p => (r, q, p)) = _
    rcases h0 with h | h
    · rw [none_of h]; rfl
    · rw [none_of h]; cases pNs t0 0 23 <;> rfl
  rw [hN]
  obtain ⟨he, c1, c2, c3, hC⟩ := h
  exact ⟨he, c1, c2, c3, hC, fun x y z e => by cases e⟩
set_option maxRecDepth 100000 in
set_option maxHeartbeats 1000000 in
theorem parseClock_any (s : ByteArray) (b : Nat) (w : World) (hg : GlP w) (hs : s.size ≤ 100000) (hcb : Cb w b) :
    Calls Tryz.prog 56 #[.pointer (some ⟨b, 0, none⟩), .string s] w fun e w' => e = .returned (.bool (pC s).isSome) ∧ Told (pC s) b 4 w w' := by
  have hSp := split_own s (str1 58) 3 w hg hs (by decide) (by decide)
  have hle := fun x hx => Nat.le_trans (splitB_le (str1 58) (min (3 + 1) (s.size + 1) - 1) s x hx) hs
  change ∀ x ∈ splitT s (str1 58) 3, x.size ≤ 100000 at hle
  unfold pC
  obtain ⟨L, hL⟩ : ∃ L, splitT s (str1 58) 3 = L := ⟨_, rfl⟩
  rw [hL] at hSp hle ⊢
  clear hL
  by_cases h3 : L.length = 3
  · obtain ⟨t0, t1, t2, rfl⟩ : ∃ t0 t1 t2, L = [t0, t1, t2] := by
      match L, h3 with
      | [a, b, c], _ => exact ⟨a, b, c, rfl⟩
    have z0 := hle t0 (by simp)
    have z1 := hle t1 (by simp)
    have z2 := hle t2 (by simp)
    rw [show fill [t0, t1, t2] = [t0, t1, t2] from rfl]
    cases o1 : (pNs t0 0 23).isSome
    · exact (clock31 s t0 t1 t2 b w hg hcb z0 hSp o1).mono fun e w' h => told1 (.inl o1) h
    · cases o2 : (pNs t1 0 59).isSome
      · exact (clock32 s t0 t1 t2 b w hg hcb z0 z1 hSp o1 o2).mono fun e w' h => told1 (.inr o2) h
      · exact (clock33 s t0 t1 t2 b w hg hcb z0 z1 z2 hSp o1 o2).mono fun e w' h => told3 o1 o2 h
  by_cases h2 : L.length = 2
  · obtain ⟨t0, t1, rfl⟩ : ∃ t0 t1, L = [t0, t1] := by
      match L, h2 with
      | [a, b], _ => exact ⟨a, b, rfl⟩
    have z0 := hle t0 (by simp)
    have z1 := hle t1 (by simp)
    rw [show fill [t0, t1] = [t0, t1, ⟨#[48, 48]⟩] from rfl]
    cases o1 : (pNs t0 0 23).isSome
    · exact (clock21 s t0 t1 b w hg hcb z0 hSp o1).mono fun e w' h => told1 (.inl o1) h
    · cases o2 : (pNs t1 0 59).isSome
      · exact (clock22 s t0 t1 b w hg hcb z0 z1 hSp o1 o2).mono fun e w' h => told1 (.inr o2) h
      · exact (clock23 s t0 t1 b w hg hcb z0 z1 hSp o1 o2).mono fun e w' h => told3 o1 o2 h
  · have hF : Hid (p3L (fill L) 0 23 0 59 0 59 = none) := by
      show _ = _
      unfold fill
      rw [if_neg h2]
      match L, h3 with
      | [], _ => rfl
      | [_], _ => rfl
      | [_, _], _ => rfl
      | [_, _, _], h => exact absurd rfl h
      | _ :: _ :: _ :: _ :: _, _ => rfl
    obtain ⟨_, hcs, _⟩ := hcb
    obtain ⟨u1, k1⟩ := hcs 4 (by omega)
    have bl : b < w.heap.size := cell_lt k1
    obtain ⟨n, hn⟩ : ∃ n, L.length = n := ⟨_, rfl⟩
    rw [hn] at hSp h2 h3
    clear hle hcs k1 hn
    go_enter Tryz.func56, Tryz.ntmps56
    go_wp2_with fail
    refine hSp.mono ?_
    rintro e w1 ⟨cap, rfl, hown, hbb⟩
    have h3' : ¬ ((n : Int) = 3) := by omega
    have h2' : ¬ ((n : Int) = 2) := by omega
    clear h3 h2 hown
    go_wp2_with fail
    go_ret
    exact ⟨by rw [hF.out]; rfl, none, none, none, St.start 4 hbb bl, fun x y z e => by rw [hF.out] at e; cases e⟩
end Go.Proofs.YtehlnhljpdjppaaGreatDoor
