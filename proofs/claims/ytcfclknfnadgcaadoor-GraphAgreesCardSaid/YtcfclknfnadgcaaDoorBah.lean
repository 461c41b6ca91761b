import Derived.Test.YtcfclknfnadgcaaDoorBag
/- The contract of (*Graph).Add: no room; no name. -/
namespace Go.Proofs.YtcfclknfnadgcaaDoor
open Go.RowKit Go.Shelf Go.Lib
set_option maxRecDepth 100000 in
set_option maxHeartbeats 8000000 in
theorem add_full (S : GS) (L : UL) (vs : Array Value) (u : Un) (w : World) (h : Gs w S L) (hu : UV w vs u) (hn : isN u.nm = true) (hno : lku L u.nm = none) (hl : 40 ≤ L.length) (hl2 : L.length ≤ 100000) (hgl : GlN w) :
    Calls Tryd.prog 9 #[.pointer (some ⟨S.gb, 0, none⟩), .agg vs] w fun e w' => e = .returned (.int .i64 151) ∧ Below w.heap.size w w' := by
  have hn60 := isN_le hn
  obtain ⟨gb, hgb⟩ : ∃ gb, S.gb = gb := ⟨_, rfl⟩
  obtain ⟨ub, hub⟩ : ∃ ub, S.ub = ub := ⟨_, rfl⟩
  obtain ⟨n, hB⟩ : ∃ n, w.heap.size = n := ⟨_, rfl⟩
  obtain ⟨nm, hnm⟩ : ∃ nm, u.nm = nm := ⟨_, rfl⟩
  obtain ⟨v0, hv0e⟩ : ∃ v0 : Array Value, v0 = zuA := ⟨_, rfl⟩
  obtain ⟨th, hth⟩ : ∃ th : Bool, th = false := ⟨_, rfl⟩
  have hv0 : v0.size = 33 := by rw [hv0e]; rfl
  have hv1 : ∀ (p : Nat) (v : Value), v0[p]? = some v → v.oneCell' = true := by rw [hv0e]; exact zu_one
  obtain ⟨W0, hW0⟩ : ∃ W0, w.alloc (.cells vs 29) = W0 := ⟨_, rfl⟩
  have b0 : Below w.heap.size w W0 := by rw [← hW0]; exact (Below.refl _ _).alloc (Nat.le_refl _) _
  have s0 : W0.heap.size = n + 1 := by rw [← hW0]; simp [hB]
  have U0 : Ub n vs W0 := by rw [← hW0, ← hB]; exact Ub.mk' _ _ _
  have x0 := U0 0 _ hu.c0
  rw [hnm] at x0
  have his := is_any nm W0 (hgl.below b0) (by rw [← hnm]; omega)
  rw [isN_eq, ← hnm, hn, hnm] at his
  have hgE : gb < n ∧ ub < n := ⟨by rw [← hB, ← hgb]; exact h.lt (.inl rfl), by rw [← hB, ← hub]; exact h.lt (.inr (.inl rfl))⟩
  have hH := hidP h
  have huH := hidP hu
  have hsv := hu.sz
  have bH := hidP b0
  have UH := hidP U0
  have hnoH := hidP hno
  have hnmH := hidP hnm
  have hv0H := hidP hv0e
  clear h hu hn hno hgl b0 U0 hv0e
  rw [hgb]
  go_enter Tryd.func9, Tryd.ntmps9
  go_wp2_with (rw [hW0])
  refine his.mono ?_
  rintro e w1 ⟨rfl, hb1⟩
  have b01 : Below w.heap.size w w1 := bH.out.trans (hb1.mono (by omega))
  have hG1 := hH.out.below b01
  have U1 := UH.out.mv (Mv.below (E := fun _ => False) hb1) (fun q => q)
  have lk : ∀ y, Below w.heap.size w y → (Instr.lookup 49 (.map (some ub)) (.string nm) true).run Tryd.prog y = .ok (.tuple #[.agg v0, .bool th]) y := fun y hy => by
    have q := (hH.out.below hy).un.look lawS (t := 49) Tryd.underlying49 (zeroUn y) (a := nm) (keyS (by rw [← hnmH.out]; omega))
    rw [← hnmH.out, hnoH.out, hub, hnmH.out] at q
    rw [hv0H.out, hth]
    exact q
  have cg : ∀ y, Below w.heap.size w y → y.cell? ⟨gb, 0, none⟩ = some (.map (some ub)) := fun y hy => by
    have q := (hH.out.below hy).c0
    rw [hgb, hub] at q; exact q
  have hS3 : w1.drew.cell? ⟨gb, 0, none⟩ = some (.map (some ub)) ∧ w1.drew.cell? ⟨n, 0, none⟩ = some (.string nm) ∧ (Instr.lookup 49 (.map (some ub)) (.string nm) true).run Tryd.prog w1.drew = .ok (.tuple #[.agg v0, .bool th]) w1.drew := ⟨cg _ b01.drew, by have := U1 0 _ huH.out.c0; rw [hnmH.out] at this; exact this, lk _ b01.drew⟩
  have hSal : ∀ Z t, (w1.alloc (.cells Z t)).drew.cell? ⟨gb, 0, none⟩ = some (.map (some ub)) ∧ (w1.alloc (.cells Z t)).drew.cell? ⟨n, 0, none⟩ = some (.string nm) ∧ (Instr.lookup 49 (.map (some ub)) (.string nm) true).run Tryd.prog (w1.alloc (.cells Z t)).drew = .ok (.tuple #[.agg v0, .bool th]) (w1.alloc (.cells Z t)).drew := fun Z t =>
    have hb : Below w.heap.size w (w1.alloc (.cells Z t)).drew := (b01.alloc b01.size _).drew
    ⟨cg _ hb, (Mv.alloc (fun _ => False) w1.drew (.cells Z t)).cell (fun q => q) hS3.2.1, lk _ hb⟩
  have b01H := hidP b01
  have U1H := hidP U1
  have cgH := hidP cg
  clear hb1 his b01 hG1 U1 lk cg
  go_wp2_with fail
  refine Zs.region (S := (fun y => y.cell? ⟨gb, 0, none⟩ = some (.map (some ub)) ∧ y.cell? ⟨n, 0, none⟩ = some (.string nm) ∧ (Instr.lookup 49 (.map (some ub)) (.string nm) true).run Tryd.prog y = .ok (.tuple #[.agg v0, .bool th]) y)) 11 (by kernel_rfl) ?_
  refine Zs.pure (i := 0) (oi := ⟨some 12, _, _, _, _, _⟩) (v := ?v0) rfl (by kernel_rfl) (by kernel_rfl) (by kernel_rfl) (by decide) (fun _ _ _ h => h) (Or.inl ⟨by rfl, ?hy0⟩) hS3 ?_
  case hy0 => (intro w hSw; (try dsimp only at hSw); go_simp; try with_reducible rfl)
  simp only [Act.put, List.setIfInBounds_toArray, List.set_cons_zero, List.set_cons_succ]
  refine Zs.pure (i := 1) (oi := ⟨some 13, _, _, _, _, _⟩) (v := ?v1) rfl (by kernel_rfl) (by kernel_rfl) (by kernel_rfl) (by decide) (fun _ _ _ h => h) (Or.inl ⟨by rfl, ?hy1⟩) hS3 ?_
  case hy1 => (intro w hSw; (try dsimp only at hSw); go_simp; try with_reducible rfl)
  simp only [Act.put, List.setIfInBounds_toArray, List.set_cons_zero, List.set_cons_succ]
  refine Zs.pure (i := 2) (oi := ⟨some 14, _, _, _, _, _⟩) (v := ?v2) rfl (by kernel_rfl) (by kernel_rfl) (by kernel_rfl) (by decide) (fun _ _ _ h => h) (Or.inl ⟨by rfl, ?hy2⟩) hS3 ?_
  case hy2 => (intro w hSw; (try dsimp only at hSw); go_simp; try with_reducible rfl)
  simp only [Act.put, List.setIfInBounds_toArray, List.set_cons_zero, List.set_cons_succ]
  refine Zs.take (i := 3) (oi := ⟨some 15, _, _, _, _, _⟩) (v := ?t3) rfl (by kernel_rfl) (by kernel_rfl) (by kernel_rfl) (by decide) (by kernel_rfl) (by kernel_rfl) (fun _ _ _ h => h) (Or.inl ⟨by rfl, ?hy3⟩) hS3 ?_
  case hy3 => (intro w hSw; (try dsimp only at hSw); go_simp; try with_reducible rfl)
  simp only [Act.put, List.setIfInBounds_toArray, List.set_cons_zero, List.set_cons_succ]
  refine Zs.pure (i := 4) (oi := ⟨some 16, _, _, _, _, _⟩) (v := ?v4) rfl (by kernel_rfl) (by kernel_rfl) (by kernel_rfl) (by decide) (fun _ _ _ h => h) (Or.inl ⟨by rfl, ?hy4⟩) hS3 ?_
  case hy4 => (intro w hSw; (try dsimp only at hSw); go_simp; try with_reducible rfl)
  simp only [Act.put, List.setIfInBounds_toArray, List.set_cons_zero, List.set_cons_succ]
  refine Zs.take (i := 5) (oi := ⟨some 17, _, _, _, _, _⟩) (v := ?t5) rfl (by kernel_rfl) (by kernel_rfl) (by kernel_rfl) (by decide) (by kernel_rfl) (by kernel_rfl) (fun _ _ _ h => h) (Or.inl ⟨by rfl, ?hy5⟩) hS3 ?_
  case hy5 => (intro w hSw; (try dsimp only at hSw); go_simp; try with_reducible rfl)
  simp only [Act.put, List.setIfInBounds_toArray, List.set_cons_zero, List.set_cons_succ]
  refine Zs.take (i := 6) (oi := ⟨some 18, _, _, _, _, _⟩) (v := ?t6) rfl (by kernel_rfl) (by kernel_rfl) (by kernel_rfl) (by decide) (by kernel_rfl) (by kernel_rfl) (fun _ _ _ h => h) (Or.inl ⟨by rfl, ?hy6⟩) hS3 ?_
  case hy6 => (intro w hSw; (try dsimp only at hSw); go_simp; try with_reducible rfl)
  simp only [Act.put, List.setIfInBounds_toArray, List.set_cons_zero, List.set_cons_succ]
  refine Zs.pure (i := 7) (oi := ⟨some 11, _, _, _, _, _⟩) (v := ?v7) rfl (by kernel_rfl) (by kernel_rfl) (by kernel_rfl) (by decide) (fun _ _ _ h => h) (Or.inl ⟨by rfl, ?hy7⟩) hS3 ?_
  case hy7 => (intro w hSw; (try dsimp only at hSw); go_simp; try with_reducible rfl)
  simp only [Act.put, List.setIfInBounds_toArray, List.set_cons_zero, List.set_cons_succ]
  refine Zs.pure (i := 8) (oi := ⟨some 19, _, _, _, _, _⟩) (v := ?v8) rfl (by kernel_rfl) (by kernel_rfl) (by kernel_rfl) (by decide) (fun _ _ _ h => h) (Or.inl ⟨by rfl, ?hy8⟩) hS3 ?_
  case hy8 => (intro w hSw; (try dsimp only at hSw); go_simp; try with_reducible rfl)
  simp only [Act.put, List.setIfInBounds_toArray, List.set_cons_zero, List.set_cons_succ]
  refine Zs.pure (i := 9) (oi := ⟨some 20, _, _, _, _, _⟩) (v := ?v9) rfl (by kernel_rfl) (by kernel_rfl) (by kernel_rfl) (by decide) (fun _ _ _ h => h) (Or.inl ⟨by rfl, ?hy9⟩) hS3 ?_
  case hy9 => (intro w hSw; (try dsimp only at hSw); go_simp; try with_reducible rfl)
  simp only [Act.put, List.setIfInBounds_toArray, List.set_cons_zero, List.set_cons_succ]
  refine Zs.one (i := 10) (oi := ⟨some 5, _, _, _, _, _⟩) (by kernel_rfl) rfl (fun K hK => ?_)
  go_simp
  refine hK.out _ _ (fun _ => hSal _ _) ?_
  clear hK K
  try simp only [Act.put, List.setIfInBounds_toArray, List.set_cons_zero, List.set_cons_succ]
  generalize hX0 : World.drew (World.alloc w1 _) = X0
  obtain ⟨Z, t0, hX1, hZ⟩ : ∃ Z t0, w1.drew.alloc (.cells Z t0) = X0 ∧ Z.size = 33 := ⟨_, _, hX0, rfl⟩
  obtain ⟨X, hst, hUX, hbX⟩ := fresh_store (W := w1.drew) hv0 hv1 Z t0 hZ
  rw [hX1] at hst
  clear hX0 hX1 hZ hUX
  refine Zs.one (i := 11) (oi := ⟨none, _, _, _, _, _⟩) (by kernel_rfl) rfl (fun K hK => ?_)
  refine step_storeU rfl _ _ rfl _ rfl _ rfl hv0 hst ?_
  refine hK.out _ _ (fun q => absurd q (by decide)) ?_
  clear hK K
  try simp only [Act.put]
  refine Zs.one (i := 12) (oi := ⟨some 6, _, _, _, _, _⟩) (by kernel_rfl) rfl (fun K hK => ?_)
  go_simp
  refine hK.out _ _ (fun q => absurd q (by decide)) ?_
  clear hK K
  try simp only [Act.put, List.setIfInBounds_toArray, List.set_cons_zero, List.set_cons_succ]
  refine Zs.done (by kernel_rfl) ?_ _
  have bX : Below w.heap.size w X := b01H.out.drew.trans (hbX.mono (by have := b01H.out.size; exact this))
  have UX : Ub n vs X := (U1H.out.mv (Mv.drew (fun _ => False) _) (fun q => q)).mv (Mv.below (E := fun _ => False) hbX) (fun q => q)
  have bXH := hidP bX
  have UXH := hidP UX
  have d0 := cgH.out X bX
  have dl : (Builtin.len_ #[49] 3 #[.map (some ub)]).run Tryd.prog X = .ok (.int .i64 (L.length : Nat)) X := by
    have q := (hH.out.below bX).un.len (t := 49) Tryd.underlying49 3
    rw [hub] at q; exact q
  have hlt2 : (40 : Int) ≤ (L.length : Nat) := by omega
  have hlt : decide ((40 : Int) ≤ (L.length : Nat)) = true := by simp; omega
  subst hth
  clear hS3 hSal hst hbX bX UX
  go_wp2_with fail
  go_ret
  exact ⟨rfl, bXH.out⟩
theorem add_bad (S : GS) (vs : Array Value) (u : Un) (w : World) (hu : UV w vs u) (hn : isN u.nm = false) (hsz : u.nm.size ≤ 2000000) (hgl : GlN w) :
    Calls Tryd.prog 9 #[.pointer (some ⟨S.gb, 0, none⟩), .agg vs] w fun e w' => e = .returned (.int .i64 150) ∧ Below w.heap.size w w' := by
  obtain ⟨n, hB⟩ : ∃ n, w.heap.size = n := ⟨_, rfl⟩
  obtain ⟨nm, hnm⟩ : ∃ nm, u.nm = nm := ⟨_, rfl⟩
  obtain ⟨W0, hW0⟩ : ∃ W0, w.alloc (.cells vs 29) = W0 := ⟨_, rfl⟩
  have b0 : Below w.heap.size w W0 := by rw [← hW0]; exact (Below.refl _ _).alloc (Nat.le_refl _) _
  have s0 : W0.heap.size = n + 1 := by rw [← hW0]; simp [hB]
  have U0 : Ub n vs W0 := by rw [← hW0, ← hB]; exact Ub.mk' _ _ _
  have x0 := U0 0 _ hu.c0
  rw [hnm] at x0
  have his := is_any nm W0 (hgl.below b0) (by rw [← hnm]; omega)
  rw [isN_eq, ← hnm, hn, hnm] at his
  have bH := hidP b0
  clear hu hn hgl b0 U0
  go_enter Tryd.func9, Tryd.ntmps9
  go_wp2_with (rw [hW0])
  refine his.mono ?_
  rintro e w1 ⟨rfl, hb1⟩
  have fin := hidP (bH.out.trans (hb1.mono bH.out.size))
  clear hb1 his
  go_wp2_with fail
  go_ret
  exact ⟨rfl, fin.out⟩
end Go.Proofs.YtcfclknfnadgcaaDoor
/- The contract of (*Graph).Add: a unit whose name is not there. -/
namespace Go.Proofs.YtcfclknfnadgcaaDoor
open Go.RowKit Go.Shelf Go.Lib
set_option maxRecDepth 100000 in
set_option maxHeartbeats 8000000 in
theorem add_new (S : GS) (L : UL) (vs : Array Value) (u : Un) (w : World) (h : Gs w S L) (hu : UV w vs u) (hn : isN u.nm = true) (hno : lku L u.nm = none) (hl : L.length < 40) (hsz : ∀ r ∈ relsU u, ∀ s ∈ r.2.2, s.size ≤ 2000000) (hc : S.c + 2 * (tolU u).length ≤ 800000) (hgl : GlN w)
    (e0 : ¬ hasG S 0) (e1 : ¬ hasG S 1) (eu : ∀ b, ubk vs b → ¬ hasG S b) :
    Calls Tryd.prog 9 #[.pointer (some ⟨S.gb, 0, none⟩), .agg vs] w fun e w' => e = .returned (.int .i64 0) ∧ ∃ S' cs, Gs w' S' ((cs, u) :: L) ∧ GsGo S w S' w' (2 * (tolU u).length) ∧ (∀ b, ubk cs b → w.heap.size ≤ b) := by
  have hn60 := isN_le hn
  obtain ⟨gb, hgb⟩ : ∃ gb, S.gb = gb := ⟨_, rfl⟩
  obtain ⟨ub, hub⟩ : ∃ ub, S.ub = ub := ⟨_, rfl⟩
  obtain ⟨n, hB⟩ : ∃ n, w.heap.size = n := ⟨_, rfl⟩
  obtain ⟨nm, hnm⟩ : ∃ nm, u.nm = nm := ⟨_, rfl⟩
  obtain ⟨v0, hv0e⟩ : ∃ v0 : Array Value, v0 = zuA := ⟨_, rfl⟩
  obtain ⟨th, hth⟩ : ∃ th : Bool, th = false := ⟨_, rfl⟩
  have hv0 : v0.size = 33 := by rw [hv0e]; rfl
  have hv1 : ∀ (p : Nat) (v : Value), v0[p]? = some v → v.oneCell' = true := by rw [hv0e]; exact zu_one
  obtain ⟨W0, hW0⟩ : ∃ W0, w.alloc (.cells vs 29) = W0 := ⟨_, rfl⟩
  have b0 : Below w.heap.size w W0 := by rw [← hW0]; exact (Below.refl _ _).alloc (Nat.le_refl _) _
  have s0 : W0.heap.size = n + 1 := by rw [← hW0]; simp [hB]
  have U0 : Ub n vs W0 := by rw [← hW0, ← hB]; exact Ub.mk' _ _ _
  have x0 := U0 0 _ hu.c0
  rw [hnm] at x0
  have his := is_any nm W0 (hgl.below b0) (by rw [← hnm]; omega)
  rw [isN_eq, ← hnm, hn, hnm] at his
  have hgE : gb < n ∧ ub < n := ⟨by rw [← hB, ← hgb]; exact h.lt (.inl rfl), by rw [← hB, ← hub]; exact h.lt (.inr (.inl rfl))⟩
  have hH := hidP h
  have huH := hidP hu
  have hsv := hu.sz
  have bH := hidP b0
  have UH := hidP U0
  have hnoH := hidP hno
  have hglH := hidP hgl
  have eH := hidP (And.intro e0 (And.intro e1 eu))
  have hcH := hidP hc
  have hszH := hidP hsz
  have hnH := hidP hn
  have hnmH := hidP hnm
  have hv0H := hidP hv0e
  clear h hu hn hno hsz hc hgl e0 e1 eu b0 U0 hv0e
  rw [hgb]
  go_enter Tryd.func9, Tryd.ntmps9
  go_wp2_with (rw [hW0])
  refine his.mono ?_
  rintro e w1 ⟨rfl, hb1⟩
  have b01 : Below w.heap.size w w1 := bH.out.trans (hb1.mono (by omega))
  have hG1 := hH.out.below b01
  have U1 := UH.out.mv (Mv.below (E := fun _ => False) hb1) (fun q => q)
  have lk : ∀ y, Below w.heap.size w y → (Instr.lookup 49 (.map (some ub)) (.string nm) true).run Tryd.prog y = .ok (.tuple #[.agg v0, .bool th]) y := fun y hy => by
    have q := (hH.out.below hy).un.look lawS (t := 49) Tryd.underlying49 (zeroUn y) (a := nm) (keyS (by rw [← hnmH.out]; omega))
    rw [← hnmH.out, hnoH.out, hub, hnmH.out] at q
    rw [hv0H.out, hth]
    exact q
  have cg : ∀ y, Below w.heap.size w y → y.cell? ⟨gb, 0, none⟩ = some (.map (some ub)) := fun y hy => by
    have q := (hH.out.below hy).c0
    rw [hgb, hub] at q; exact q
  have hS3 : w1.drew.cell? ⟨gb, 0, none⟩ = some (.map (some ub)) ∧ w1.drew.cell? ⟨n, 0, none⟩ = some (.string nm) ∧ (Instr.lookup 49 (.map (some ub)) (.string nm) true).run Tryd.prog w1.drew = .ok (.tuple #[.agg v0, .bool th]) w1.drew := ⟨cg _ b01.drew, by have := U1 0 _ huH.out.c0; rw [hnmH.out] at this; exact this, lk _ b01.drew⟩
  have hSal : ∀ Z t, (w1.alloc (.cells Z t)).drew.cell? ⟨gb, 0, none⟩ = some (.map (some ub)) ∧ (w1.alloc (.cells Z t)).drew.cell? ⟨n, 0, none⟩ = some (.string nm) ∧ (Instr.lookup 49 (.map (some ub)) (.string nm) true).run Tryd.prog (w1.alloc (.cells Z t)).drew = .ok (.tuple #[.agg v0, .bool th]) (w1.alloc (.cells Z t)).drew := fun Z t =>
    have hb : Below w.heap.size w (w1.alloc (.cells Z t)).drew := (b01.alloc b01.size _).drew
    ⟨cg _ hb, (Mv.alloc (fun _ => False) w1.drew (.cells Z t)).cell (fun q => q) hS3.2.1, lk _ hb⟩
  have b01H := hidP b01
  have U1H := hidP U1
  have cgH := hidP cg
  clear hb1 his b01 hG1 U1 lk cg
  go_wp2_with fail
  refine Zs.region (S := (fun y => y.cell? ⟨gb, 0, none⟩ = some (.map (some ub)) ∧ y.cell? ⟨n, 0, none⟩ = some (.string nm) ∧ (Instr.lookup 49 (.map (some ub)) (.string nm) true).run Tryd.prog y = .ok (.tuple #[.agg v0, .bool th]) y)) 11 (by kernel_rfl) ?_
  refine Zs.pure (i := 0) (oi := ⟨some 12, _, _, _, _, _⟩) (v := ?v0) rfl (by kernel_rfl) (by kernel_rfl) (by kernel_rfl) (by decide) (fun _ _ _ h => h) (Or.inl ⟨by rfl, ?hy0⟩) hS3 ?_
  case hy0 => (intro w hSw; (try dsimp only at hSw); go_simp; try with_reducible rfl)
  simp only [Act.put, List.setIfInBounds_toArray, List.set_cons_zero, List.set_cons_succ]
  refine Zs.pure (i := 1) (oi := ⟨some 13, _, _, _, _, _⟩) (v := ?v1) rfl (by kernel_rfl) (by kernel_rfl) (by kernel_rfl) (by decide) (fun _ _ _ h => h) (Or.inl ⟨by rfl, ?hy1⟩) hS3 ?_
  case hy1 => (intro w hSw; (try dsimp only at hSw); go_simp; try with_reducible rfl)
  simp only [Act.put, List.setIfInBounds_toArray, List.set_cons_zero, List.set_cons_succ]
  refine Zs.pure (i := 2) (oi := ⟨some 14, _, _, _, _, _⟩) (v := ?v2) rfl (by kernel_rfl) (by kernel_rfl) (by kernel_rfl) (by decide) (fun _ _ _ h => h) (Or.inl ⟨by rfl, ?hy2⟩) hS3 ?_
  case hy2 => (intro w hSw; (try dsimp only at hSw); go_simp; try with_reducible rfl)
  simp only [Act.put, List.setIfInBounds_toArray, List.set_cons_zero, List.set_cons_succ]
  refine Zs.take (i := 3) (oi := ⟨some 15, _, _, _, _, _⟩) (v := ?t3) rfl (by kernel_rfl) (by kernel_rfl) (by kernel_rfl) (by decide) (by kernel_rfl) (by kernel_rfl) (fun _ _ _ h => h) (Or.inl ⟨by rfl, ?hy3⟩) hS3 ?_
  case hy3 => (intro w hSw; (try dsimp only at hSw); go_simp; try with_reducible rfl)
  simp only [Act.put, List.setIfInBounds_toArray, List.set_cons_zero, List.set_cons_succ]
  refine Zs.pure (i := 4) (oi := ⟨some 16, _, _, _, _, _⟩) (v := ?v4) rfl (by kernel_rfl) (by kernel_rfl) (by kernel_rfl) (by decide) (fun _ _ _ h => h) (Or.inl ⟨by rfl, ?hy4⟩) hS3 ?_
  case hy4 => (intro w hSw; (try dsimp only at hSw); go_simp; try with_reducible rfl)
  simp only [Act.put, List.setIfInBounds_toArray, List.set_cons_zero, List.set_cons_succ]
  refine Zs.take (i := 5) (oi := ⟨some 17, _, _, _, _, _⟩) (v := ?t5) rfl (by kernel_rfl) (by kernel_rfl) (by kernel_rfl) (by decide) (by kernel_rfl) (by kernel_rfl) (fun _ _ _ h => h) (Or.inl ⟨by rfl, ?hy5⟩) hS3 ?_
  case hy5 => (intro w hSw; (try dsimp only at hSw); go_simp; try with_reducible rfl)
  simp only [Act.put, List.setIfInBounds_toArray, List.set_cons_zero, List.set_cons_succ]
  refine Zs.take (i := 6) (oi := ⟨some 18, _, _, _, _, _⟩) (v := ?t6) rfl (by kernel_rfl) (by kernel_rfl) (by kernel_rfl) (by decide) (by kernel_rfl) (by kernel_rfl) (fun _ _ _ h => h) (Or.inl ⟨by rfl, ?hy6⟩) hS3 ?_
  case hy6 => (intro w hSw; (try dsimp only at hSw); go_simp; try with_reducible rfl)
  simp only [Act.put, List.setIfInBounds_toArray, List.set_cons_zero, List.set_cons_succ]
  refine Zs.pure (i := 7) (oi := ⟨some 11, _, _, _, _, _⟩) (v := ?v7) rfl (by kernel_rfl) (by kernel_rfl) (by kernel_rfl) (by decide) (fun _ _ _ h => h) (Or.inl ⟨by rfl, ?hy7⟩) hS3 ?_
  case hy7 => (intro w hSw; (try dsimp only at hSw); go_simp; try with_reducible rfl)
  simp only [Act.put, List.setIfInBounds_toArray, List.set_cons_zero, List.set_cons_succ]
  refine Zs.pure (i := 8) (oi := ⟨some 19, _, _, _, _, _⟩) (v := ?v8) rfl (by kernel_rfl) (by kernel_rfl) (by kernel_rfl) (by decide) (fun _ _ _ h => h) (Or.inl ⟨by rfl, ?hy8⟩) hS3 ?_
  case hy8 => (intro w hSw; (try dsimp only at hSw); go_simp; try with_reducible rfl)
  simp only [Act.put, List.setIfInBounds_toArray, List.set_cons_zero, List.set_cons_succ]
  refine Zs.pure (i := 9) (oi := ⟨some 20, _, _, _, _, _⟩) (v := ?v9) rfl (by kernel_rfl) (by kernel_rfl) (by kernel_rfl) (by decide) (fun _ _ _ h => h) (Or.inl ⟨by rfl, ?hy9⟩) hS3 ?_
  case hy9 => (intro w hSw; (try dsimp only at hSw); go_simp; try with_reducible rfl)
  simp only [Act.put, List.setIfInBounds_toArray, List.set_cons_zero, List.set_cons_succ]
  refine Zs.one (i := 10) (oi := ⟨some 5, _, _, _, _, _⟩) (by kernel_rfl) rfl (fun K hK => ?_)
  go_simp
  refine hK.out _ _ (fun _ => hSal _ _) ?_
  clear hK K
  try simp only [Act.put, List.setIfInBounds_toArray, List.set_cons_zero, List.set_cons_succ]
  generalize hX0 : World.drew (World.alloc w1 _) = X0
  obtain ⟨Z, t0, hX1, hZ⟩ : ∃ Z t0, w1.drew.alloc (.cells Z t0) = X0 ∧ Z.size = 33 := ⟨_, _, hX0, rfl⟩
  obtain ⟨X, hst, hUX, hbX⟩ := fresh_store (W := w1.drew) hv0 hv1 Z t0 hZ
  rw [hX1] at hst
  clear hX0 hX1 hZ hUX
  refine Zs.one (i := 11) (oi := ⟨none, _, _, _, _, _⟩) (by kernel_rfl) rfl (fun K hK => ?_)
  refine step_storeU rfl _ _ rfl _ rfl _ rfl hv0 hst ?_
  refine hK.out _ _ (fun q => absurd q (by decide)) ?_
  clear hK K
  try simp only [Act.put]
  refine Zs.one (i := 12) (oi := ⟨some 6, _, _, _, _, _⟩) (by kernel_rfl) rfl (fun K hK => ?_)
  go_simp
  refine hK.out _ _ (fun q => absurd q (by decide)) ?_
  clear hK K
  try simp only [Act.put, List.setIfInBounds_toArray, List.set_cons_zero, List.set_cons_succ]
  refine Zs.done (by kernel_rfl) ?_ _
  have bX : Below w.heap.size w X := b01H.out.drew.trans (hbX.mono (by have := b01H.out.size; exact this))
  have UX : Ub n vs X := (U1H.out.mv (Mv.drew (fun _ => False) _) (fun q => q)).mv (Mv.below (E := fun _ => False) hbX) (fun q => q)
  have bXH := hidP bX
  have UXH := hidP UX
  have d0 := cgH.out X bX
  have dl : (Builtin.len_ #[49] 3 #[.map (some ub)]).run Tryd.prog X = .ok (.int .i64 (L.length : Nat)) X := by
    have q := (hH.out.below bX).un.len (t := 49) Tryd.underlying49 3
    rw [hub] at q; exact q
  have hlt : decide ((40 : Int) ≤ (L.length : Nat)) = false := by simp; omega
  have hlt2 : ¬ (40 : Int) ≤ (L.length : Nat) := by omega
  have heq : ∀ w, (binOp .eql 49 (.map (some ub)) (.map none)).run Tryd.prog w = .ok (.bool false) w := fun w => by first | kernel_rfl | rfl
  subst hth
  have sU : (loadCells ⟨n, 0, none⟩ 33).run Tryd.prog X.drew = .ok vs X.drew := (UX.mv (Mv.drew (fun _ => False) _) (fun q => q)).load hsv
  have hS10 : X.drew.cell? ⟨gb, 0, none⟩ = some (.map (some ub)) ∧ X.drew.cell? ⟨n, 0, none⟩ = some (.string nm) ∧ (loadCells ⟨n, 0, none⟩ 33).run Tryd.prog X.drew = .ok vs X.drew := ⟨cgH.out _ bX.drew, by have := UX 0 _ huH.out.c0; rw [hnmH.out] at this; exact this, sU⟩
  have hcp := copied_any vs u X.drew (huH.out.below bX.drew)
  clear hS3 hSal hst hbX bX UX sU
  go_wp2_with fail
  refine Zs.region (S := (fun y => y.cell? ⟨gb, 0, none⟩ = some (.map (some ub)) ∧ y.cell? ⟨n, 0, none⟩ = some (.string nm) ∧ (loadCells ⟨n, 0, none⟩ 33).run Tryd.prog y = .ok vs y)) 8 (by kernel_rfl) ?_
  refine Zs.pure (i := 0) (oi := ⟨some 46, _, _, _, _, _⟩) (v := ?v0x2) rfl (by kernel_rfl) (by kernel_rfl) (by kernel_rfl) (by decide) (fun _ _ _ h => h) (Or.inl ⟨by rfl, ?hy0x2⟩) hS10 ?_
  case hy0x2 => (intro w hSw; (try dsimp only at hSw); go_simp; try with_reducible rfl)
  simp only [Act.put, List.setIfInBounds_toArray, List.set_cons_zero, List.set_cons_succ]
  refine Zs.pure (i := 1) (oi := ⟨some 47, _, _, _, _, _⟩) (v := ?v1x2) rfl (by kernel_rfl) (by kernel_rfl) (by kernel_rfl) (by decide) (fun _ _ _ h => h) (Or.inl ⟨by rfl, ?hy1x2⟩) hS10 ?_
  case hy1x2 => (intro w hSw; (try dsimp only at hSw); go_simp; try with_reducible rfl)
  simp only [Act.put, List.setIfInBounds_toArray, List.set_cons_zero, List.set_cons_succ]
  refine Zs.pure (i := 2) (oi := ⟨some 48, _, _, _, _, _⟩) (v := ?v2x2) rfl (by kernel_rfl) (by kernel_rfl) (by kernel_rfl) (by decide) (fun _ _ _ h => h) (Or.inl ⟨by rfl, ?hy2x2⟩) hS10 ?_
  case hy2x2 => (intro w hSw; (try dsimp only at hSw); go_simp; try with_reducible rfl)
  simp only [Act.put, List.setIfInBounds_toArray, List.set_cons_zero, List.set_cons_succ]
  refine Zs.take (i := 3) (oi := ⟨some 49, _, _, _, _, _⟩) (v := ?s3) rfl (by kernel_rfl) (by kernel_rfl) (by kernel_rfl) (by decide) (by kernel_rfl) (by kernel_rfl) (fun _ _ _ h => h) (Or.inl ⟨by rfl, ?hy3x2⟩) hS10 ?_
  case hy3x2 => (intro w hSw; (try dsimp only at hSw); go_simp; try with_reducible rfl)
  simp only [Act.put, List.setIfInBounds_toArray, List.set_cons_zero, List.set_cons_succ]
  refine Zs.pure (i := 4) (oi := ⟨some 50, _, _, _, _, _⟩) (v := ?v4x2) rfl (by kernel_rfl) (by kernel_rfl) (by kernel_rfl) (by decide) (fun _ _ _ h => h) (Or.inl ⟨by rfl, ?hy4x2⟩) hS10 ?_
  case hy4x2 => (intro w hSw; (try dsimp only at hSw); go_simp; try with_reducible rfl)
  simp only [Act.put, List.setIfInBounds_toArray, List.set_cons_zero, List.set_cons_succ]
  refine Zs.take (i := 5) (oi := ⟨some 51, _, _, _, _, _⟩) (v := ?s5) rfl (by kernel_rfl) (by kernel_rfl) (by kernel_rfl) (by decide) (by kernel_rfl) (by kernel_rfl) (fun _ _ _ h => h) (Or.inl ⟨by rfl, ?hy5x2⟩) hS10 ?_
  case hy5x2 => (intro w hSw; (try dsimp only at hSw); go_simp; try with_reducible rfl)
  simp only [Act.put, List.setIfInBounds_toArray, List.set_cons_zero, List.set_cons_succ]
  refine Zs.take (i := 6) (oi := ⟨some 52, _, _, _, _, _⟩) (v := .agg vs) rfl (by kernel_rfl) (by kernel_rfl) (by kernel_rfl) (by decide) (by kernel_rfl) (by kernel_rfl) (fun _ _ _ h => h) (Or.inl ⟨by rfl, fun w hSw => exec_loadU _ rfl _ rfl _ hSw.2.2⟩) hS10 ?_
  simp only [Act.put, List.setIfInBounds_toArray, List.set_cons_zero, List.set_cons_succ]
  refine Zs.one (i := 7) (oi := ⟨some 53, _, _, _, _, _⟩) (by kernel_rfl) rfl (fun K hK => ?_)
  go_simp
  refine hcp.mono ?_
  rintro e w2 ⟨cs, rfl, hcs, hfr, hb2⟩
  have bw2 : Below w.heap.size w w2 := bXH.out.drew.trans (hb2.mono (by have := bXH.out.size; exact this))
  have U2 : Ub n vs w2 := (UXH.out.mv (Mv.drew (fun _ => False) _) (fun q => q)).mv (Mv.below (E := fun _ => False) hb2) (fun q => q)
  have hfr2 : ∀ b, ubk cs b → w.heap.size ≤ b := fun b hb => by have := hfr b hb; have := bXH.out.size; change X.heap.size ≤ b at *; omega
  refine hK.out _ _ (fun _ => ⟨cgH.out _ bw2, by have := U2 0 _ huH.out.c0; rw [hnmH.out] at this; exact this, U2.load hsv⟩) ?_
  clear hK K
  try simp only [Act.put, List.setIfInBounds_toArray, List.set_cons_zero, List.set_cons_succ]
  obtain ⟨w3, hup, hM, m3⟩ := (hH.out.below bw2).un.store lawS (fun _ _ => eS_inj) klS (t := 49) Tryd.underlying49 (a := nm) (keyS (by rw [← hnmH.out]; omega)) (.agg cs) (by unfold maxLen; omega)
  rw [hub] at hup hM m3
  have U3 : Ub n vs w3 := U2.mv m3 (by omega)
  have hld3 := U3.load hsv
  rw [← hnmH.out, hnoH.out] at hM
  simp only [Option.map_none, Option.isSome_none, upN, Bool.false_eq_true, if_false] at hM
  have g2 := (hH.out.below bw2).ed
  have g3 : Gd w3 S (kL L) := g2.mv m3 (fun k hk e => hH.out.nu (by rw [hub, ← e]; exact hk)) (fun e => hH.out.ng (hub.trans e.symm))
  have hcnt := gcount_any S (kL L) vs u w3 g3 ((huH.out.below bw2).mv m3 (fun b hb e => eH.out.2.2 b hb (.inr (.inl (e.trans hub.symm))))) 1 (.inl rfl) (by omega) hcH.out hszH.out
    ((hglH.out.below bw2).mv m3 (fun e => eH.out.1 (.inr (.inl (e.trans hub.symm)))) (fun e => eH.out.2.1 (.inr (.inl (e.trans hub.symm))))) (fun q => eH.out.1 (.inr (.inr q))) (fun q => eH.out.2.1 (.inr (.inr q))) (fun b hb q => eH.out.2.2 b hb (.inr (.inr q)))
  rw [hgb] at hcnt
  have bwH := hidP bw2
  have hcsH := hidP hcs
  have hfH := hidP hfr2
  have hMH := hidP hM
  have m3H := hidP m3
  clear hcp hcs hfr hb2 bw2 U2 hfr2 hM m3 U3 g2 g3 hS10
  refine Zs.one (i := 8) (oi := ⟨none, _, _, _, _, _⟩) (by kernel_rfl) rfl (fun K hK => ?_)
  go_simp
  refine hK.out _ _ (fun q => absurd q (by decide)) ?_
  clear hK K
  try simp only [Act.put]
  refine Zs.done (by kernel_rfl) ?_ _
  go_wp2_with (refine wpList_loadU rfl _ rfl _ rfl _ hld3 ?_)
  refine hcnt.mono ?_
  rintro e w4 ⟨rfl, S', hG', hgo⟩
  have fin := hidP (hH.out.come (cs := cs) (u := u) bwH.out hcsH.out hfH.out hnH.out hnoH.out hszH.out (by rw [hub]; exact m3H.out) (by rw [hub]; exact hMH.out) hG' hgo)
  clear hcnt hG' hgo hld3 hup
  go_wp2_with fail
  go_ret
  exact ⟨rfl, S', cs, fin.out.1, fin.out.2, hfH.out⟩
end Go.Proofs.YtcfclknfnadgcaaDoor
/- Units as the laws write them; Remove of a name that is not there. -/
namespace Go.Proofs.YtcfclknfnadgcaaDoor
open Go.RowKit Go.Shelf Go.Lib
abbrev nilV : Value := .slice none 0 0
def litU (nm : ByteArray) (kd : Int) (wa be : Value) (pl : Bool) (li : ByteArray) : Array Value := #[.string nm, .int .i64 kd, .int .i64 0, wa, .slice none 0 0, .slice none 0 0, .slice none 0 0, .slice none 0 0, .slice none 0 0, be, .bool pl, .int .i64 0, .int .i64 0, .int .i64 0, .slice none 0 0, .slice none 0 0, .slice none 0 0, .int .i64 0, .int .i64 0, .int .i64 0, .int .i64 0, .int .i64 0, .int .i64 0, .bool false, .string li, .string ⟨#[]⟩, .int .i64 0, .int .i64 0, .slice none 0 0, .slice none 0 0, .slice none 0 0, .string ⟨#[]⟩, .string ⟨#[]⟩]
def unU (nm : ByteArray) (kd : Int) (lw lb : List ByteArray) (wa be : Value) (pl : Bool) (li : ByteArray) : Un := ⟨nm, kd, ⟨#[]⟩, pl, fun i => if i = 0 then lw else if i = 6 then lb else [], fun p => ((litU nm kd wa be pl li)[p]?).getD (.bool false)⟩
theorem pos33 {p : Nat} (h1 : p < 33) (h2 : p ∉ posL) : p = 0 ∨ p = 1 ∨ p = 2 ∨ p = 10 ∨ p = 11 ∨ p = 12 ∨ p = 13 ∨ p = 17 ∨ p = 18 ∨ p = 19 ∨ p = 20 ∨ p = 21 ∨ p = 22 ∨ p = 23 ∨ p = 24 ∨ p = 25 ∨ p = 26 ∨ p = 27 ∨ p = 31 ∨ p = 32 := by
  unfold posL at h2
  simp only [List.mem_cons, List.not_mem_nil, or_false, not_or] at h2
  omega
theorem lit_uv (w : World) (nm : ByteArray) (kd : Int) (lw lb : List ByteArray) (wa be : Value) (pl : Bool) (li : ByteArray) (hw : NR w wa lw) (hb : NR w be lb) : UV w (litU nm kd wa be pl li) (unU nm kd lw lb wa be pl li) := by
  have ho : ∀ p, p < 33 → p ∉ posL → ∃ v, (litU nm kd wa be pl li)[p]? = some v ∧ rbk v = none ∧ v.oneCell' = true := fun p h1 h2 => by
    rcases pos33 h1 h2 with rfl | rfl | rfl | rfl | rfl | rfl | rfl | rfl | rfl | rfl | rfl | rfl | rfl | rfl | rfl | rfl | rfl | rfl | rfl | rfl <;> exact ⟨_, rfl, rfl, rfl⟩
  have hl : ∀ (i p : Nat), posL[i]? = some p → ∃ v, (litU nm kd wa be pl li)[p]? = some v ∧ NR w v ((unU nm kd lw lb wa be pl li).ls i) := fun i p hp => by
    have hn0 : NR w (.slice none 0 0) [] := .inl ⟨rfl, none, 0, rfl⟩
    have hi := (posL_lt hp).2
    match i, hi, hp with
    | 0, _, hp => cases hp; exact ⟨wa, rfl, hw⟩
    | 1, _, hp => cases hp; exact ⟨_, rfl, hn0⟩
    | 2, _, hp => cases hp; exact ⟨_, rfl, hn0⟩
    | 3, _, hp => cases hp; exact ⟨_, rfl, hn0⟩
    | 4, _, hp => cases hp; exact ⟨_, rfl, hn0⟩
    | 5, _, hp => cases hp; exact ⟨_, rfl, hn0⟩
    | 6, _, hp => cases hp; exact ⟨be, rfl, hb⟩
    | 7, _, hp => cases hp; exact ⟨_, rfl, hn0⟩
    | 8, _, hp => cases hp; exact ⟨_, rfl, hn0⟩
    | 9, _, hp => cases hp; exact ⟨_, rfl, hn0⟩
    | 10, _, hp => cases hp; exact ⟨_, rfl, hn0⟩
    | 11, _, hp => cases hp; exact ⟨_, rfl, hn0⟩
    | 12, _, hp => cases hp; exact ⟨_, rfl, hn0⟩
  refine ⟨rfl, fun p v hv => ?_, rfl, rfl, rfl, rfl, hl, fun p h1 h2 => ?_⟩
  · have hp : p < 33 := (Array.getElem?_eq_some_iff.1 hv).1
    by_cases hm : p ∈ posL
    · obtain ⟨i, hi⟩ := List.mem_iff_getElem?.1 hm
      obtain ⟨v2, q1, q2⟩ := hl i p hi
      rw [hv] at q1; cases q1
      exact q2.one
    · obtain ⟨v2, q1, _, q3⟩ := ho p hp hm
      rw [hv] at q1; cases q1
      exact q3
  · obtain ⟨v, q1, q2, _⟩ := ho p h1 h2
    have : (unU nm kd lw lb wa be pl li).ot p = v := by show ((litU nm kd wa be pl li)[p]?).getD _ = v; rw [q1]; rfl
    rw [this]
    exact ⟨q1, q2⟩
theorem lit_ubk {nm : ByteArray} {kd : Int} {wa be : Value} {pl : Bool} {li : ByteArray} {b : Nat} (h : ubk (litU nm kd wa be pl li) b) : rbk wa = some b ∨ rbk be = some b := by
  obtain ⟨p, v, h1, h2⟩ := h
  have hp : p < 33 := (Array.getElem?_eq_some_iff.1 h1).1
  match p, hp, h1 with
  | 3, _, h1 => cases h1; exact .inl h2
  | 9, _, h1 => cases h1; exact .inr h2
  | 0, _, h1 => cases h1; cases h2
  | 1, _, h1 => cases h1; cases h2
  | 2, _, h1 => cases h1; cases h2
  | 4, _, h1 => cases h1; cases h2
  | 5, _, h1 => cases h1; cases h2
  | 6, _, h1 => cases h1; cases h2
  | 7, _, h1 => cases h1; cases h2
  | 8, _, h1 => cases h1; cases h2
  | 10, _, h1 => cases h1; cases h2
  | 11, _, h1 => cases h1; cases h2
  | 12, _, h1 => cases h1; cases h2
  | 13, _, h1 => cases h1; cases h2
  | 14, _, h1 => cases h1; cases h2
  | 15, _, h1 => cases h1; cases h2
  | 16, _, h1 => cases h1; cases h2
  | 17, _, h1 => cases h1; cases h2
  | 18, _, h1 => cases h1; cases h2
  | 19, _, h1 => cases h1; cases h2
  | 20, _, h1 => cases h1; cases h2
  | 21, _, h1 => cases h1; cases h2
  | 22, _, h1 => cases h1; cases h2
  | 23, _, h1 => cases h1; cases h2
  | 24, _, h1 => cases h1; cases h2
  | 25, _, h1 => cases h1; cases h2
  | 26, _, h1 => cases h1; cases h2
  | 27, _, h1 => cases h1; cases h2
  | 28, _, h1 => cases h1; cases h2
  | 29, _, h1 => cases h1; cases h2
  | 30, _, h1 => cases h1; cases h2
  | 31, _, h1 => cases h1; cases h2
  | 32, _, h1 => cases h1; cases h2
/-- What counts of a unit is not what else it holds. -/
theorem tol_core (nm : ByteArray) (kd : Int) (lw lb : List ByteArray) (wa be : Value) (pl : Bool) (li : ByteArray) : tolU (unU nm kd lw lb wa be pl li) = tolU (unU nm kd lw lb nilV nilV pl ⟨#[]⟩) := rfl
theorem rel_core (nm : ByteArray) (kd : Int) (lw lb : List ByteArray) (wa be : Value) (pl : Bool) (li : ByteArray) : relsU (unU nm kd lw lb wa be pl li) = relsU (unU nm kd lw lb nilV nilV pl ⟨#[]⟩) := rfl
theorem kL_one (cs : Array Value) (u : Un) (f : Ed) : kL [(cs, u)] f = (cn f (tolU u) : Nat) := by
  unfold kL
  simp
set_option maxRecDepth 100000 in
set_option maxHeartbeats 4000000 in
theorem remove_none (S : GS) (L : UL) (x : ByteArray) (w : World) (h : Gs w S L) (hx : x.size ≤ 1000) (hno : lku L x = none) :
    Calls Tryd.prog 16 #[.pointer (some ⟨S.gb, 0, none⟩), .string x] w fun e w' => e = .returned (.int .i64 150) ∧ Below w.heap.size w w' := by
  have c0 := h.c0
  have hlk := h.un.look lawS (t := 49) Tryd.underlying49 (zeroUn w) (a := x) (keyS hx)
  rw [hno] at hlk
  simp only [Option.map_none, Option.getD_none, Option.isSome_none] at hlk
  obtain ⟨v0, hv0e⟩ : ∃ v0 : Array Value, v0 = zuA := ⟨_, rfl⟩
  rw [← hv0e] at hlk
  have hv0 : v0.size = 33 := by rw [hv0e]; rfl
  have hv1 : ∀ (p : Nat) (v : Value), v0[p]? = some v → v.oneCell' = true := by rw [hv0e]; exact zu_one
  clear h hv0e hno
  obtain ⟨X, hst, _, hbX⟩ := fresh_store (W := w) hv0 hv1 zuA 29 rfl
  have hfin := hidP hbX
  obtain ⟨X0, hX0⟩ : ∃ X0, w.alloc (.cells zuA 29) = X0 := ⟨_, rfl⟩
  rw [hX0] at hst
  unfold zuA at hX0
  clear hv1 hbX
  go_enter Tryd.func16, Tryd.ntmps16
  go_wp2_with (first | rw [hX0] | refine wpList_storeU rfl _ _ rfl _ rfl _ rfl hv0 hst ?_)
  go_ret
  exact ⟨rfl, hfin.out⟩
end Go.Proofs.YtcfclknfnadgcaaDoor
