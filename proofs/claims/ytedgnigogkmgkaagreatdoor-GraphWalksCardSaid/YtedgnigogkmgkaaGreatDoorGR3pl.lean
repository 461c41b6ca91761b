/- Contracts of graph.relations, by cases. -/
import Derived.Test.YtedgnigogkmgkaaGreatDoorGRq
namespace Go.Proofs.YtedgnigogkmgkaaGreatDoor
open Go.RowKit Go.Shelf Go.Lib
set_option maxRecDepth 100000 in
set_option maxHeartbeats 4000000 in
theorem rel_3_pl (vs : Array Value) (u : Un) (w : World) (hu : UV w vs u) (hk : u.kd = 3) (hp : u.pl = true) : Calls Tryz.prog 139 #[.agg vs] w (RelsEnd w vs (relsU u)) := by
  obtain ⟨q0, c0, e0, r0, b0⟩ := hu.rel (i := 0) (p := 3) rfl
  obtain ⟨q1, c1, e1, r1, b1⟩ := hu.rel (i := 1) (p := 4) rfl
  obtain ⟨q2, c2, e2, r2, b2⟩ := hu.rel (i := 2) (p := 5) rfl
  obtain ⟨q3, c3, e3, r3, b3⟩ := hu.rel (i := 3) (p := 6) rfl
  obtain ⟨q4, c4, e4, r4, b4⟩ := hu.rel (i := 4) (p := 7) rfl
  obtain ⟨q5, c5, e5, r5, b5⟩ := hu.rel (i := 5) (p := 8) rfl
  obtain ⟨q6, c6, e6, r6, b6⟩ := hu.rel (i := 6) (p := 9) rfl
  generalize hn0 : (u.ls 0).length = n0 at e0 r0 b0
  generalize hn1 : (u.ls 1).length = n1 at e1 r1 b1
  generalize hn2 : (u.ls 2).length = n2 at e2 r2 b2
  generalize hn3 : (u.ls 3).length = n3 at e3 r3 b3
  generalize hn4 : (u.ls 4).length = n4 at e4 r4 b4
  generalize hn5 : (u.ls 5).length = n5 at e5 r5 b5
  generalize hn6 : (u.ls 6).length = n6 at e6 r6 b6
  have hrs : Hid (relsT u = [(8, false, [u.tg]), (6, true, [u.tg])]) := by show _ = _; unfold relsT hasTg; rw [hk]; rfl
  have hrd : Hid (relsD u = []) := by show _ = _; unfold relsD; rw [hp]; rfl
  have x1e := hu.c1
  rw [hk] at x1e
  have x10e := hu.c10
  rw [hp] at x10e
  have x25e := hu.c25
  obtain ⟨n, hn⟩ : ∃ n, w.heap.size = n := ⟨_, rfl⟩
  obtain ⟨W0, hW0⟩ : ∃ W0, w.alloc (.cells vs 30) = W0 := ⟨_, rfl⟩
  have B0 : Below w.heap.size w W0 := by rw [← hW0]; exact (Below.refl _ _).alloc (Nat.le_refl _) _
  have s0 : W0.heap.size = n + 1 := by rw [← hW0]; simp [hn]
  have U0 : Ub n vs W0 := by rw [← hW0, ← hn]; exact Ub.mk' _ _ _
  obtain ⟨l7, hl7⟩ : ∃ l7 : List Rr, l7 = [⟨1, false, q0, n0, c0⟩, ⟨2, false, q1, n1, c1⟩, ⟨3, false, q2, n2, c2⟩, ⟨4, false, q3, n3, c3⟩, ⟨5, false, q4, n4, c4⟩, ⟨6, false, q5, n5, c5⟩, ⟨6, true, q6, n6, c6⟩] := ⟨_, rfl⟩
  obtain ⟨W1, hW1⟩ : ∃ W1, W0.alloc (.cells #[.int .i64 1, .bool false, .slice q0 n0 c0, .int .i64 2, .bool false, .slice q1 n1 c1, .int .i64 3, .bool false, .slice q2 n2 c2, .int .i64 4, .bool false, .slice q3 n3 c3, .int .i64 5, .bool false, .slice q4 n4 c4, .int .i64 6, .bool false, .slice q5 n5 c5, .int .i64 6, .bool true, .slice q6 n6 c6] 202) = W1 := ⟨_, rfl⟩
  have B1 : Below W0.heap.size W0 W1 := by rw [← hW1]; exact (Below.refl _ _).alloc (Nat.le_refl _) _
  have s1 : W1.heap.size = n + 2 := by rw [← hW1]; simp [s0]
  have U1 : Ub n vs W1 := U0.mv (Mv.below (E := fun _ => False) B1) (fun h => h)
  have V1 : Rw.SV W1 (Rw.slv (n + 1) 0 7 7) l7 := by
    have := Rw.RS.fresh W0 l7 202 (by rw [hl7]; simp)
    rw [hl7, s0] at this
    rw [hl7, ← hW1]
    exact .inr ⟨n + 1, 0, 7, rfl, this⟩
  have R0 : RelsIs w l7 (rels7 u) := by
    rw [hl7]
    exact ⟨⟨rfl, rfl, r0⟩, ⟨rfl, rfl, r1⟩, ⟨rfl, rfl, r2⟩, ⟨rfl, rfl, r3⟩, ⟨rfl, rfl, r4⟩, ⟨rfl, rfl, r5⟩, ⟨rfl, rfl, r6⟩, trivial⟩
  have L7 : l7.length = 7 := by rw [hl7]; rfl
  have bk7 : ∀ x ∈ l7, ∀ b, rbk (rsl x) = some b → ubk vs b ∧ b < n := by
    rw [hl7]
    intro x hx b hb
    have hub : ubk vs b := by
      simp only [List.mem_cons, List.not_mem_nil, or_false] at hx
      rcases hx with rfl | rfl | rfl | rfl | rfl | rfl | rfl
      · exact b0 b hb
      · exact b1 b hb
      · exact b2 b hb
      · exact b3 b hb
      · exact b4 b hb
      · exact b5 b hb
      · exact b6 b hb
    exact ⟨hub, by rw [← hn]; exact hu.lt hub⟩
  have f3 := U0 3 _ e0
  have f4 := U0 4 _ e1
  have f5 := U0 5 _ e2
  have f6 := U0 6 _ e3
  have f7 := U0 7 _ e4
  have f8 := U0 8 _ e5
  have f9 := U0 9 _ e6
  have g1 := U1 1 _ x1e
  have g25 := U1 25 _ x25e
  obtain ⟨W2, hW2⟩ : ∃ W2, W1.alloc (.cells #[.string u.tg] 9) = W2 := ⟨_, rfl⟩
  have B2 : Below W1.heap.size W1 W2 := by rw [← hW2]; exact (Below.refl _ _).alloc (Nat.le_refl _) _
  have s2 : W2.heap.size = n + 3 := by rw [← hW2]; simp [s1]
  have t2 : W2.cell? ⟨n + 2, 0, none⟩ = some (.string u.tg) := by rw [← hW2]; exact cell_at s1 rfl
  obtain ⟨lt, hlt⟩ : ∃ lt : List Rr, lt = [⟨8, false, some ⟨n + 2, 0, none⟩, 1, 1⟩, ⟨6, true, some ⟨n + 2, 0, none⟩, 1, 1⟩] := ⟨_, rfl⟩
  obtain ⟨W3, hW3⟩ : ∃ W3, W2.alloc (.cells #[.int .i64 8, .bool false, .slice (some ⟨n + 2, 0, none⟩) 1 1, .int .i64 6, .bool true, .slice (some ⟨n + 2, 0, none⟩) 1 1] 202) = W3 := ⟨_, rfl⟩
  have B3 : Below W2.heap.size W2 W3 := by rw [← hW3]; exact (Below.refl _ _).alloc (Nat.le_refl _) _
  have s3 : W3.heap.size = n + 4 := by rw [← hW3]; simp [s2]
  have V3 : Rw.SV W3 (Rw.slv (n + 3) 0 2 2) lt := by
    have := Rw.RS.fresh W2 lt 202 (by rw [hlt]; simp)
    rw [hlt, s2] at this
    rw [hlt, ← hW3]
    exact .inr ⟨n + 3, 0, 2, rfl, this⟩
  have t3 : W3.cell? ⟨n + 2, 0, none⟩ = some (.string u.tg) := (Mv.below (E := fun _ => False) B3).cell (fun h => h) t2
  have B13 : Below W1.heap.size W1 W3 := B2.trans (B3.mono (by omega))
  have V13 := V1.mv (Mv.below (E := fun _ => False) B13) (fun _ _ h => h)
  obtain ⟨v4, W4, hr4, V4, m4, a4⟩ := Rw.SV.cat V13 V3 (by omega) (by rw [hlt]; simp)
  have hv4 : nbk (Rw.slv (n + 1) 0 7 7) = some (n + 1) := rfl
  have m4' : Mv (fun k => k = n + 1) W3 W4 := m4.mono (fun k _ e => by rw [hv4] at e; cases e; rfl)
  have t4 : W4.cell? ⟨n + 2, 0, none⟩ = some (.string u.tg) := m4'.cell (a := ⟨n + 2, 0, none⟩) (by show ¬ n + 2 = n + 1; omega) t3
  have U4 : Ub n vs W4 := (U1.mv (Mv.below (E := fun _ => False) B13) (fun h => h)).mv m4' (by omega)
  have N4 : ∀ k, nbk v4 = some k → k = n + 1 ∨ n + 4 ≤ k := fun k hk => by
    rcases a4 with e | ⟨k2, e, hge⟩
    · rw [e, hv4] at hk; cases hk; exact .inl rfl
    · rw [e] at hk; cases hk; exact .inr (by omega)
  have B4 : Below w.heap.size w W4 := ((B0.trans (B1.mono (by omega))).trans (B13.mono (by omega))).trans (m4'.toBelow (n := w.heap.size) (by omega) (fun k hk e => by omega))
  have s4 : n + 4 ≤ W4.heap.size := by have := m4'.size; omega
  have R4 : RelsIs W4 (l7 ++ lt) (rels7 u ++ relsT u) := by
    rw [hrs.out]
    refine RelsIs.app (R0.mv (Mv.below (E := fun k => ¬ k < w.heap.size) (B4)) (fun x hx b hb h => h (by have := (bk7 x hx b hb).2; omega))) ?_
    rw [hlt]
    exact ⟨⟨rfl, rfl, NR.one1 t4⟩, ⟨rfl, rfl, NR.one1 t4⟩, trivial⟩
  have K4 : ∀ x ∈ l7 ++ lt, ∀ b, rbk (rsl x) = some b → (ubk vs b ∧ b < n) ∨ (b = n + 2 ∧ n + 3 ≤ W4.heap.size) := by
    intro x hx b hb
    rcases List.mem_append.1 hx with hx | hx
    · exact .inl (bk7 x hx b hb)
    · rw [hlt] at hx
      simp only [List.mem_cons, List.not_mem_nil, or_false] at hx
      rcases hx with rfl | rfl <;> (simp [rbk, rsl] at hb; exact .inr ⟨hb.symm, by omega⟩)
  have h10 := U4 10 _ x10e
  obtain ⟨g, o, c, hv, S4⟩ : ∃ g o c, v4 = Rw.slv g o (l7 ++ lt).length c ∧ Rw.RS W4 g o c (l7 ++ lt) := by
    rcases V4 with ⟨_, h⟩ | h
    · have := congrArg List.length h; simp [L7] at this; try omega
    · exact h
  have hg : nbk v4 = some g := by rw [hv]; rfl
  have fin : Hid (RelsEnd w vs (relsU u) (.returned v4) W4) := by
    refine ⟨g, o, c, (l7 ++ lt), by rw [hv], S4, ?_, by have := N4 g hg; omega, fun x hx b hb => ?_, B4⟩
    · unfold relsU; rw [hrd.out, List.append_nil]; exact R4
    · have k := K4 x hx b hb
      have := N4 g hg
      have := V4.lt hg
      exact ⟨k.imp (fun q => q.1) (fun q => by omega), by omega, by omega⟩
  clear hu e0 r0 b0 hn0 e1 r1 b1 hn1 e2 r2 b2 hn2 e3 r3 b3 hn3 e4 r4 b4 hn4 e5 r5 b5 hn5 e6 r6 b6 hn6 x1e x10e x25e B0 U0 hl7 B1 U1 V1 R0 L7 bk7 V4 U4 N4 B4 R4 K4 B2 t2 hlt B3 V3 t3 B13 V13 m4 a4 m4' t4 hrs hrd hg S4 hv
  unfold Rw.slv at *
  go_enter Tryz.func139, Tryz.ntmps139
  go_wp2_with (first | refine wpList_append_run rfl _ _ _ rfl _ _ _ _ rfl rfl hr4 ?_ | rw [hW0] | rw [hW1] | rw [hW2] | rw [hW3])
  go_ret
  exact fin.out
end Go.Proofs.YtedgnigogkmgkaaGreatDoor
