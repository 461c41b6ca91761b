/- Contracts of graph.relations, by cases. -/
import Derived.Test.YtedgnigogkmgkaaGreatDoorGRq
namespace Go.Proofs.YtedgnigogkmgkaaGreatDoor
open Go.RowKit Go.Shelf Go.Lib
set_option maxRecDepth 100000 in
set_option maxHeartbeats 4000000 in
theorem rel_4_oth (vs : Array Value) (u : Un) (w : World) (hu : UV w vs u) (hk : u.kd = 4) (hp : u.pl = false) : Calls Tryz.prog 139 #[.agg vs] w (RelsEnd w vs (relsU u)) := by
  obtain ⟨q0, c0, e0, r0, b0⟩ := hu.rel (i := 0) (p := 3) rfl
  obtain ⟨q1, c1, e1, r1, b1⟩ := hu.rel (i := 1) (p := 4) rfl
  obtain ⟨q2, c2, e2, r2, b2⟩ := hu.rel (i := 2) (p := 5) rfl
  obtain ⟨q3, c3, e3, r3, b3⟩ := hu.rel (i := 3) (p := 6) rfl
  obtain ⟨q4, c4, e4, r4, b4⟩ := hu.rel (i := 4) (p := 7) rfl
  obtain ⟨q5, c5, e5, r5, b5⟩ := hu.rel (i := 5) (p := 8) rfl
  obtain ⟨q6, c6, e6, r6, b6⟩ := hu.rel (i := 6) (p := 9) rfl
  generalize hn0 : (u.ls 0).length = n0 at e0 r0 b0
  generalize hn1 : (u.ls 1).length = n1 at e1 r1 b1
  generalize hn2 : (u.ls 2).length = n2 at e2 r2 b2
  generalize hn3 : (u.ls 3).length = n3 at e3 r3 b3
  generalize hn4 : (u.ls 4).length = n4 at e4 r4 b4
  generalize hn5 : (u.ls 5).length = n5 at e5 r5 b5
  generalize hn6 : (u.ls 6).length = n6 at e6 r6 b6
  have hrs : Hid (relsT u = [(8, false, [u.tg]), (6, true, [u.tg])]) := by show _ = _; unfold relsT hasTg; rw [hk]; rfl
  have hrd : Hid (relsD u = [(5, false, [sdn]), (6, true, [sdn])]) := by show _ = _; unfold relsD; rw [hp]; simp; rw [hk]; decide
  have x1e := hu.c1
  rw [hk] at x1e
  have x10e := hu.c10
  rw [hp] at x10e
  have x25e := hu.c25
  obtain ⟨n, hn⟩ : ∃ n, w.heap.size = n := ⟨_, rfl⟩
  obtain ⟨W0, hW0⟩ : ∃ W0, w.alloc (.cells vs 30) = W0 := ⟨_, rfl⟩
  have B0 : Below w.heap.size w W0 := by rw [← hW0]; exact (Below.refl _ _).alloc (Nat.le_refl _) _
  have s0 : W0.heap.size = n + 1 := by rw [← hW0]; simp [hn]
  have U0 : Ub n vs W0 := by rw [← hW0, ← hn]; exact Ub.mk' _ _ _
  obtain ⟨l7, hl7⟩ : ∃ l7 : List Rr, l7 = [⟨1, false, q0, n0, c0⟩, ⟨2, false, q1, n1, c1⟩, ⟨3, false, q2, n2, c2⟩, ⟨4, false, q3, n3, c3⟩, ⟨5, false, q4, n4, c4⟩, ⟨6, false, q5, n5, c5⟩, ⟨6, true, q6, n6, c6⟩] := ⟨_, rfl⟩
  obtain ⟨W1, hW1⟩ : ∃ W1, W0.alloc (.cells #[.int .i64 1, .bool false, .slice q0 n0 c0, .int .i64 2, .bool false, .slice q1 n1 c1, .int .i64 3, .bool false, .slice q2 n2 c2, .int .i64 4, .bool false, .slice q3 n3 c3, .int .i64 5, .bool false, .slice q4 n4 c4, .int .i64 6, .bool false, .slice q5 n5 c5, .int .i64 6, .bool true, .slice q6 n6 c6] 202) = W1 := ⟨_, rfl⟩
  have B1 : Below W0.heap.size W0 W1 := by rw [← hW1]; exact (Below.refl _ _).alloc (Nat.le_refl _) _
  have s1 : W1.heap.size = n + 2 := by rw [← hW1]; simp [s0]
  have U1 : Ub n vs W1 := U0.mv (Mv.below (E := fun _ => False) B1) (fun h => h)
  have V1 : Rw.SV W1 (Rw.slv (n + 1) 0 7 7) l7 := by
    have := Rw.RS.fresh W0 l7 202 (by rw [hl7]; simp)
    rw [hl7, s0] at this
    rw [hl7, ← hW1]
    exact .inr ⟨n + 1, 0, 7, rfl, this⟩
  have R0 : RelsIs w l7 (rels7 u) := by
    rw [hl7]
    exact ⟨⟨rfl, rfl, r0⟩, ⟨rfl, rfl, r1⟩, ⟨rfl, rfl, r2⟩, ⟨rfl, rfl, r3⟩, ⟨rfl, rfl, r4⟩, ⟨rfl, rfl, r5⟩, ⟨rfl, rfl, r6⟩, trivial⟩
  have L7 : l7.length = 7 := by rw [hl7]; rfl
  have bk7 : ∀ x ∈ l7, ∀ b, rbk (rsl x) = some b → ubk vs b ∧ b < n := by
    rw [hl7]
    intro x hx b hb
    have hub : ubk vs b := by
      simp only [List.mem_cons, List.not_mem_nil, or_false] at hx
      rcases hx with rfl | rfl | rfl | rfl | rfl | rfl | rfl
      · exact b0 b hb
      · exact b1 b hb
      · exact b2 b hb
      · exact b3 b hb
      · exact b4 b hb
      · exact b5 b hb
      · exact b6 b hb
    exact ⟨hub, by rw [← hn]; exact hu.lt hub⟩
  have f3 := U0 3 _ e0
  have f4 := U0 4 _ e1
  have f5 := U0 5 _ e2
  have f6 := U0 6 _ e3
  have f7 := U0 7 _ e4
  have f8 := U0 8 _ e5
  have f9 := U0 9 _ e6
  have g1 := U1 1 _ x1e
  have g25 := U1 25 _ x25e
  obtain ⟨W2, hW2⟩ : ∃ W2, W1.alloc (.cells #[.string u.tg] 9) = W2 := ⟨_, rfl⟩
  have B2 : Below W1.heap.size W1 W2 := by rw [← hW2]; exact (Below.refl _ _).alloc (Nat.le_refl _) _
  have s2 : W2.heap.size = n + 3 := by rw [← hW2]; simp [s1]
  have t2 : W2.cell? ⟨n + 2, 0, none⟩ = some (.string u.tg) := by rw [← hW2]; exact cell_at s1 rfl
  obtain ⟨lt, hlt⟩ : ∃ lt : List Rr, lt = [⟨8, false, some ⟨n + 2, 0, none⟩, 1, 1⟩, ⟨6, true, some ⟨n + 2, 0, none⟩, 1, 1⟩] := ⟨_, rfl⟩
  obtain ⟨W3, hW3⟩ : ∃ W3, W2.alloc (.cells #[.int .i64 8, .bool false, .slice (some ⟨n + 2, 0, none⟩) 1 1, .int .i64 6, .bool true, .slice (some ⟨n + 2, 0, none⟩) 1 1] 202) = W3 := ⟨_, rfl⟩
  have B3 : Below W2.heap.size W2 W3 := by rw [← hW3]; exact (Below.refl _ _).alloc (Nat.le_refl _) _
  have s3 : W3.heap.size = n + 4 := by rw [← hW3]; simp [s2]
  have V3 : Rw.SV W3 (Rw.slv (n + 3) 0 2 2) lt := by
    have := Rw.RS.fresh W2 lt 202 (by rw [hlt]; simp)
    rw [hlt, s2] at this
    rw [hlt, ← hW3]
    exact .inr ⟨n + 3, 0, 2, rfl, this⟩
  have t3 : W3.cell? ⟨n + 2, 0, none⟩ = some (.string u.tg) := (Mv.below (E := fun _ => False) B3).cell (fun h => h) t2
  have B13 : Below W1.heap.size W1 W3 := B2.trans (B3.mono (by omega))
  have V13 := V1.mv (Mv.below (E := fun _ => False) B13) (fun _ _ h => h)
  obtain ⟨v4, W4, hr4, V4, m4, a4⟩ := Rw.SV.cat V13 V3 (by omega) (by rw [hlt]; simp)
  have hv4 : nbk (Rw.slv (n + 1) 0 7 7) = some (n + 1) := rfl
  have m4' : Mv (fun k => k = n + 1) W3 W4 := m4.mono (fun k _ e => by rw [hv4] at e; cases e; rfl)
  have t4 : W4.cell? ⟨n + 2, 0, none⟩ = some (.string u.tg) := m4'.cell (a := ⟨n + 2, 0, none⟩) (by show ¬ n + 2 = n + 1; omega) t3
  have U4 : Ub n vs W4 := (U1.mv (Mv.below (E := fun _ => False) B13) (fun h => h)).mv m4' (by omega)
  have N4 : ∀ k, nbk v4 = some k → k = n + 1 ∨ n + 4 ≤ k := fun k hk => by
    rcases a4 with e | ⟨k2, e, hge⟩
    · rw [e, hv4] at hk; cases hk; exact .inl rfl
    · rw [e] at hk; cases hk; exact .inr (by omega)
  have B4 : Below w.heap.size w W4 := ((B0.trans (B1.mono (by omega))).trans (B13.mono (by omega))).trans (m4'.toBelow (n := w.heap.size) (by omega) (fun k hk e => by omega))
  have s4 : n + 4 ≤ W4.heap.size := by have := m4'.size; omega
  have R4 : RelsIs W4 (l7 ++ lt) (rels7 u ++ relsT u) := by
    rw [hrs.out]
    refine RelsIs.app (R0.mv (Mv.below (E := fun k => ¬ k < w.heap.size) (B4)) (fun x hx b hb h => h (by have := (bk7 x hx b hb).2; omega))) ?_
    rw [hlt]
    exact ⟨⟨rfl, rfl, NR.one1 t4⟩, ⟨rfl, rfl, NR.one1 t4⟩, trivial⟩
  have K4 : ∀ x ∈ l7 ++ lt, ∀ b, rbk (rsl x) = some b → (ubk vs b ∧ b < n) ∨ (b = n + 2 ∧ n + 3 ≤ W4.heap.size) := by
    intro x hx b hb
    rcases List.mem_append.1 hx with hx | hx
    · exact .inl (bk7 x hx b hb)
    · rw [hlt] at hx
      simp only [List.mem_cons, List.not_mem_nil, or_false] at hx
      rcases hx with rfl | rfl <;> (simp [rbk, rsl] at hb; exact .inr ⟨hb.symm, by omega⟩)
  have h10 := U4 10 _ x10e
  have h1 := U4 1 _ x1e
  obtain ⟨S4, hS4⟩ : ∃ S4, W4.heap.size = S4 := ⟨_, rfl⟩
  obtain ⟨ld, hld⟩ : ∃ ld : List Rr, ld = [⟨5, false, some ⟨S4, 0, none⟩, 1, 1⟩, ⟨6, true, some ⟨S4, 0, none⟩, 1, 1⟩] := ⟨_, rfl⟩
  obtain ⟨W5, hW5⟩ : ∃ W5, W4.alloc (.cells #[.string ⟨#[115, 104, 117, 116, 100, 111, 119, 110, 46, 116, 97, 114, 103, 101, 116]⟩] 9) = W5 := ⟨_, rfl⟩
  have B45 : Below W4.heap.size W4 W5 := by rw [← hW5]; exact (Below.refl _ _).alloc (Nat.le_refl _) _
  have s5 : W5.heap.size = S4 + 1 := by rw [← hW5]; simp [hS4]
  have t5 : W5.cell? ⟨S4, 0, none⟩ = some (.string sdn) := by rw [← hW5]; exact cell_at hS4 rfl
  obtain ⟨W6, hW6⟩ : ∃ W6, W5.alloc (.cells #[.int .i64 5, .bool false, .slice (some ⟨S4, 0, none⟩) 1 1, .int .i64 6, .bool true, .slice (some ⟨S4, 0, none⟩) 1 1] 202) = W6 := ⟨_, rfl⟩
  have B56 : Below W5.heap.size W5 W6 := by rw [← hW6]; exact (Below.refl _ _).alloc (Nat.le_refl _) _
  have s6 : W6.heap.size = S4 + 2 := by rw [← hW6]; simp [s5]
  have B46 : Below W4.heap.size W4 W6 := B45.trans (B56.mono (by omega))
  have V6 : Rw.SV W6 (Rw.slv (S4 + 1) 0 2 2) ld := by
    have := Rw.RS.fresh W5 ld 202 (by rw [hld]; simp)
    rw [hld, s5] at this
    rw [hld, ← hW6]
    exact .inr ⟨S4 + 1, 0, 2, rfl, this⟩
  have t6 : W6.cell? ⟨S4, 0, none⟩ = some (.string sdn) := (Mv.below (E := fun _ => False) B56).cell (fun h => h) t5
  have V46 := V4.mv (Mv.below (E := fun _ => False) B46) (fun _ _ h => h)
  have Lx : (l7 ++ lt).length ≤ 10 := by rw [hl7]; rw [hlt]; simp
  obtain ⟨v7, W7, hr7, V7, m7, a7⟩ := Rw.SV.cat V46 V6 (by omega) (by rw [hld]; simp)
  obtain ⟨g4, o4, cc4, hv4s, S4r⟩ : ∃ g o c, v4 = Rw.slv g o (l7 ++ lt).length c ∧ Rw.RS W4 g o c (l7 ++ lt) := by
    rcases V4 with ⟨_, h⟩ | h
    · have := congrArg List.length h; simp [L7] at this; try omega
    · exact h
  have hg4 : nbk v4 = some g4 := by rw [hv4s]; rfl
  have hg4n := N4 g4 hg4
  have hg4s := V4.lt hg4
  have m7' : Mv (fun k => k = g4) W6 W7 := m7.mono (fun k _ e => by rw [hg4] at e; cases e; rfl)
  obtain ⟨g, o, c, hv, S7⟩ : ∃ g o c, v7 = Rw.slv g o ((l7 ++ lt) ++ ld).length c ∧ Rw.RS W7 g o c ((l7 ++ lt) ++ ld) := by
    rcases V7 with ⟨_, h⟩ | h
    · have := congrArg List.length h; simp [L7] at this; try omega
    · exact h
  have hg : nbk v7 = some g := by rw [hv]; rfl
  have hgn : g = g4 ∨ S4 + 1 ≤ g := by
    rcases a7 with e | ⟨k2, e, hge⟩
    · rw [hg, hg4] at e; cases e; exact .inl rfl
    · rw [hg] at e; cases e; exact .inr (by omega)
  have hgs := V7.lt hg
  have B7 : Below w.heap.size w W7 := (B4.trans (B46.mono (by have := B4.size; omega))).trans (m7'.toBelow (n := w.heap.size) (by have := B46.size; have := B4.size; omega) (fun k hk e => by omega))
  have m47 : Mv (fun k => k = g4) W4 W7 := (Mv.below B46).trans' m7'
  have hgne : g ≠ S4 := by omega
  have z7 := m7'.size
  have t7 : W7.cell? ⟨S4, 0, none⟩ = some (.string sdn) := m7'.cell (a := ⟨S4, 0, none⟩) (by show ¬ S4 = g4; omega) t6
  have Rd : RelsIs W7 ld (relsD u) := by
    rw [hrd.out, hld]
    exact ⟨⟨rfl, rfl, NR.one1 t7⟩, ⟨rfl, rfl, NR.one1 t7⟩, trivial⟩
  have Kd : ∀ x ∈ ld, ∀ b, rbk (rsl x) = some b → (ubk vs b ∧ b < n) ∨ b = S4 := by
    rw [hld]
    intro x hx b hb
    simp only [List.mem_cons, List.not_mem_nil, or_false] at hx
    rcases hx with rfl | rfl <;> (simp [rbk, rsl] at hb; exact .inr hb.symm)
  have fin : Hid (RelsEnd w vs (relsU u) (.returned v7) W7) := by
    have kn : ∀ x ∈ (l7 ++ lt), ∀ b, rbk (rsl x) = some b → b ≠ g4 ∧ b < S4 := fun x hx b hb => by have := K4 x hx b hb; omega
    refine ⟨g, o, c, (l7 ++ lt) ++ ld, by rw [hv], S7, ?_, by omega, fun x hx b hb => ?_, B7⟩
    · unfold relsU
      exact RelsIs.app (R4.mv m47 (fun x hx b hb => (kn x hx b hb).1)) Rd
    · rcases List.mem_append.1 hx with hx | hx
      · have k := K4 x hx b hb
        have := kn x hx b hb
        exact ⟨k.imp (fun q => q.1) (fun q => by omega), by omega, by omega⟩
      · have k := Kd x hx b hb
        exact ⟨k.imp (fun q => q.1) (fun q => by omega), by omega, by omega⟩
  clear hu e0 r0 b0 hn0 e1 r1 b1 hn1 e2 r2 b2 hn2 e3 r3 b3 hn3 e4 r4 b4 hn4 e5 r5 b5 hn5 e6 r6 b6 hn6 x1e x10e x25e B0 U0 hl7 B1 U1 V1 R0 L7 bk7 V4 U4 N4 B4 R4 K4 B2 t2 hlt B3 V3 t3 B13 V13 m4 a4 m4' t4 hrs hrd hld B46 V6 V46 Lx V7 m7 a7 S4r hg4 hg4n hg4s m7' S7 hg hgn hgs B7 m47 hgne z7 Rd Kd hv4s hv B45 t5 B56 t6 t7
  unfold Rw.slv at *
  go_enter Tryz.func139, Tryz.ntmps139
  go_wp2_with (first | refine wpList_append_run rfl _ _ _ rfl _ _ _ _ rfl rfl hr4 ?_ | refine wpList_append_run rfl _ _ _ rfl _ _ _ _ rfl rfl hr7 ?_ | rw [hW0] | rw [hW1] | rw [hW2] | rw [hW3] | rw [hW5] | rw [hW6])
  go_ret
  exact fin.out
end Go.Proofs.YtedgnigogkmgkaaGreatDoor
