import Derived.Test.YtedgnigogkmgkaaGreatDoorBae
import Derived.Test.YtedgnigogkmgkaaGreatDoorBah
import Derived.Test.YtedgnigogkmgkaaGreatDoorGU
/- The contract of (*Graph).Add: a unit whose name is not there. -/
namespace Go.Proofs.YtedgnigogkmgkaaGreatDoor
open Go.RowKit Go.Shelf Go.Lib
set_option maxRecDepth 100000 in
set_option maxHeartbeats 8000000 in
theorem add_new (S : GS) (L : UL) (vs : Array Value) (u : Un) (w : World) (h : Gs w S L) (hu : UV w vs u) (hn : isN u.nm = true) (hno : lku L u.nm = none) (hl : L.length < 40) (hsz : ∀ r ∈ relsU u, ∀ s ∈ r.2.2, s.size ≤ 2000000) (hc : S.c + 2 * (tolU u).length ≤ 800000) (hgl : GlN w)
    (e0 : ¬ hasG S 0) (e1 : ¬ hasG S 1) (eu : ∀ b, ubk vs b → ¬ hasG S b) :
    Calls Tryz.prog 11 #[.pointer (some ⟨S.gb, 0, none⟩), .agg vs] w fun e w' => e = .returned (.int .i64 0) ∧ ∃ S' cs, Gs w' S' ((cs, u) :: L) ∧ GsGo S w S' w' (2 * (tolU u).length) ∧ (∀ b, ubk cs b → w.heap.size ≤ b) := by
  have hn60 := isN_le hn
  obtain ⟨gb, hgb⟩ : ∃ gb, S.gb = gb := ⟨_, rfl⟩
  obtain ⟨ub, hub⟩ : ∃ ub, S.ub = ub := ⟨_, rfl⟩
  obtain ⟨n, hB⟩ : ∃ n, w.heap.size = n := ⟨_, rfl⟩
  obtain ⟨nm, hnm⟩ : ∃ nm, u.nm = nm := ⟨_, rfl⟩
  obtain ⟨v0, hv0e⟩ : ∃ v0 : Array Value, v0 = zuA := ⟨_, rfl⟩
  obtain ⟨th, hth⟩ : ∃ th : Bool, th = false := ⟨_, rfl⟩
  have hv0 : v0.size = 33 := by rw [hv0e]; rfl
  have hv1 : ∀ (p : Nat) (v : Value), v0[p]? = some v → v.oneCell' = true := by rw [hv0e]; exact zu_one
  obtain ⟨W0, hW0⟩ : ∃ W0, w.alloc (.cells vs 30) = W0 := ⟨_, rfl⟩
  have b0 : Below w.heap.size w W0 := by rw [← hW0]; exact (Below.refl _ _).alloc (Nat.le_refl _) _
  have s0 : W0.heap.size = n + 1 := by rw [← hW0]; simp [hB]
  have U0 : Ub n vs W0 := by rw [← hW0, ← hB]; exact Ub.mk' _ _ _
  have x0 := U0 0 _ hu.c0
  rw [hnm] at x0
  have his := is_any nm W0 (hgl.below b0) (by rw [← hnm]; omega)
  rw [isN_eq, ← hnm, hn, hnm] at his
  have hgE : gb < n ∧ ub < n := ⟨by rw [← hB, ← hgb]; exact h.lt (.inl rfl), by rw [← hB, ← hub]; exact h.lt (.inr (.inl rfl))⟩
  have hH := hidP h
  have huH := hidP hu
  have hsv := hu.sz
  have bH := hidP b0
  have UH := hidP U0
  have hnoH := hidP hno
  have hglH := hidP hgl
  have eH := hidP (And.intro e0 (And.intro e1 eu))
  have hcH := hidP hc
  have hszH := hidP hsz
  have hnH := hidP hn
  have hnmH := hidP hnm
  have hv0H := hidP hv0e
  clear h hu hn hno hsz hc hgl e0 e1 eu b0 U0 hv0e
  rw [hgb]
  go_enter Tryz.func11, Tryz.ntmps11
  go_wp2_with (rw [hW0])
  refine his.mono ?_
  rintro e w1 ⟨rfl, hb1⟩
  have b01 : Below w.heap.size w w1 := bH.out.trans (hb1.mono (by omega))
  have hG1 := hH.out.below b01
  have U1 := UH.out.mv (Mv.below (E := fun _ => False) hb1) (fun q => q)
  have lk : ∀ y, Below w.heap.size w y → (Instr.lookup 101 (.map (some ub)) (.string nm) true).run Tryz.prog y = .ok (.tuple #[.agg v0, .bool th]) y := fun y hy => by
    have q := (hH.out.below hy).un.look lawS (t := 101) Tryz.underlying101 (zeroUn y) (a := nm) (keyS (by rw [← hnmH.out]; omega))
    rw [← hnmH.out, hnoH.out, hub, hnmH.out] at q
    rw [hv0H.out, hth]
    exact q
  have cg : ∀ y, Below w.heap.size w y → y.cell? ⟨gb, 0, none⟩ = some (.map (some ub)) := fun y hy => by
    have q := (hH.out.below hy).c0
    rw [hgb, hub] at q; exact q
  have hS3 : w1.drew.cell? ⟨gb, 0, none⟩ = some (.map (some ub)) ∧ w1.drew.cell? ⟨n, 0, none⟩ = some (.string nm) ∧ (Instr.lookup 101 (.map (some ub)) (.string nm) true).run Tryz.prog w1.drew = .ok (.tuple #[.agg v0, .bool th]) w1.drew := ⟨cg _ b01.drew, by have := U1 0 _ huH.out.c0; rw [hnmH.out] at this; exact this, lk _ b01.drew⟩
  have hSal : ∀ Z t, (w1.alloc (.cells Z t)).drew.cell? ⟨gb, 0, none⟩ = some (.map (some ub)) ∧ (w1.alloc (.cells Z t)).drew.cell? ⟨n, 0, none⟩ = some (.string nm) ∧ (Instr.lookup 101 (.map (some ub)) (.string nm) true).run Tryz.prog (w1.alloc (.cells Z t)).drew = .ok (.tuple #[.agg v0, .bool th]) (w1.alloc (.cells Z t)).drew := fun Z t =>
    have hb : Below w.heap.size w (w1.alloc (.cells Z t)).drew := (b01.alloc b01.size _).drew
    ⟨cg _ hb, (Mv.alloc (fun _ => False) w1.drew (.cells Z t)).cell (fun q => q) hS3.2.1, lk _ hb⟩
  have b01H := hidP b01
  have U1H := hidP U1
  have cgH := hidP cg
  clear hb1 his b01 hG1 U1 lk cg
  go_wp2_with fail
  refine Zs.region (S := (fun y => y.cell? ⟨gb, 0, none⟩ = some (.map (some ub)) ∧ y.cell? ⟨n, 0, none⟩ = some (.string nm) ∧ (Instr.lookup 101 (.map (some ub)) (.string nm) true).run Tryz.prog y = .ok (.tuple #[.agg v0, .bool th]) y)) 11 (by kernel_rfl) ?_
  refine Zs.pure (i := 0) (oi := ⟨some 12, _, _, _, _, _⟩) (v := ?v0) rfl (by kernel_rfl) (by kernel_rfl) (by kernel_rfl) (by decide) (fun _ _ _ h => h) (Or.inl ⟨by rfl, ?hy0⟩) hS3 ?_
  case hy0 => (intro w hSw; (try dsimp only at hSw); go_simp; try with_reducible rfl)
  simp only [Act.put, List.setIfInBounds_toArray, List.set_cons_zero, List.set_cons_succ]
  refine Zs.pure (i := 1) (oi := ⟨some 13, _, _, _, _, _⟩) (v := ?v1) rfl (by kernel_rfl) (by kernel_rfl) (by kernel_rfl) (by decide) (fun _ _ _ h => h) (Or.inl ⟨by rfl, ?hy1⟩) hS3 ?_
  case hy1 => (intro w hSw; (try dsimp only at hSw); go_simp; try with_reducible rfl)
  simp only [Act.put, List.setIfInBounds_toArray, List.set_cons_zero, List.set_cons_succ]
  refine Zs.pure (i := 2) (oi := ⟨some 14, _, _, _, _, _⟩) (v := ?v2) rfl (by kernel_rfl) (by kernel_rfl) (by kernel_rfl) (by decide) (fun _ _ _ h => h) (Or.inl ⟨by rfl, ?hy2⟩) hS3 ?_
  case hy2 => (intro w hSw; (try dsimp only at hSw); go_simp; try with_reducible rfl)
  simp only [Act.put, List.setIfInBounds_toArray, List.set_cons_zero, List.set_cons_succ]
  refine Zs.take (i := 3) (oi := ⟨some 15, _, _, _, _, _⟩) (v := ?t3) rfl (by kernel_rfl) (by kernel_rfl) (by kernel_rfl) (by decide) (by kernel_rfl) (by kernel_rfl) (fun _ _ _ h => h) (Or.inl ⟨by rfl, ?hy3⟩) hS3 ?_
  case hy3 => (intro w hSw; (try dsimp only at hSw); go_simp; try with_reducible rfl)
  simp only [Act.put, List.setIfInBounds_toArray, List.set_cons_zero, List.set_cons_succ]
  refine Zs.pure (i := 4) (oi := ⟨some 16, _, _, _, _, _⟩) (v := ?v4) rfl (by kernel_rfl) (by kernel_rfl) (by kernel_rfl) (by decide) (fun _ _ _ h => h) (Or.inl ⟨by rfl, ?hy4⟩) hS3 ?_
  case hy4 => (intro w hSw; (try dsimp only at hSw); go_simp; try with_reducible rfl)
  simp only [Act.put, List.setIfInBounds_toArray, List.set_cons_zero, List.set_cons_succ]
  refine Zs.take (i := 5) (oi := ⟨some 17, _, _, _, _, _⟩) (v := ?t5) rfl (by kernel_rfl) (by kernel_rfl) (by kernel_rfl) (by decide) (by kernel_rfl) (by kernel_rfl) (fun _ _ _ h => h) (Or.inl ⟨by rfl, ?hy5⟩) hS3 ?_
  case hy5 => (intro w hSw; (try dsimp only at hSw); go_simp; try with_reducible rfl)
  simp only [Act.put, List.setIfInBounds_toArray, List.set_cons_zero, List.set_cons_succ]
  refine Zs.take (i := 6) (oi := ⟨some 18, _, _, _, _, _⟩) (v := ?t6) rfl (by kernel_rfl) (by kernel_rfl) (by kernel_rfl) (by decide) (by kernel_rfl) (by kernel_rfl) (fun _ _ _ h => h) (Or.inl ⟨by rfl, ?hy6⟩) hS3 ?_
  case hy6 => (intro w hSw; (try dsimp only at hSw); go_simp; try with_reducible rfl)
  simp only [Act.put, List.setIfInBounds_toArray, List.set_cons_zero, List.set_cons_succ]
  refine Zs.pure (i := 7) (oi := ⟨some 11, _, _, _, _, _⟩) (v := ?v7) rfl (by kernel_rfl) (by kernel_rfl) (by kernel_rfl) (by decide) (fun _ _ _ h => h) (Or.inl ⟨by rfl, ?hy7⟩) hS3 ?_
  case hy7 => (intro w hSw; (try dsimp only at hSw); go_simp; try with_reducible rfl)
  simp only [Act.put, List.setIfInBounds_toArray, List.set_cons_zero, List.set_cons_succ]
  refine Zs.pure (i := 8) (oi := ⟨some 19, _, _, _, _, _⟩) (v := ?v8) rfl (by kernel_rfl) (by kernel_rfl) (by kernel_rfl) (by decide) (fun _ _ _ h => h) (Or.inl ⟨by rfl, ?hy8⟩) hS3 ?_
  case hy8 => (intro w hSw; (try dsimp only at hSw); go_simp; try with_reducible rfl)
  simp only [Act.put, List.setIfInBounds_toArray, List.set_cons_zero, List.set_cons_succ]
  refine Zs.pure (i := 9) (oi := ⟨some 20, _, _, _, _, _⟩) (v := ?v9) rfl (by kernel_rfl) (by kernel_rfl) (by kernel_rfl) (by decide) (fun _ _ _ h => h) (Or.inl ⟨by rfl, ?hy9⟩) hS3 ?_
  case hy9 => (intro w hSw; (try dsimp only at hSw); go_simp; try with_reducible rfl)
  simp only [Act.put, List.setIfInBounds_toArray, List.set_cons_zero, List.set_cons_succ]
  refine Zs.one (i := 10) (oi := ⟨some 5, _, _, _, _, _⟩) (by kernel_rfl) rfl (fun K hK => ?_)
  go_simp
  refine hK.out _ _ (fun _ => hSal _ _) ?_
  clear hK K
  try simp only [Act.put, List.setIfInBounds_toArray, List.set_cons_zero, List.set_cons_succ]
  generalize hX0 : World.drew (World.alloc w1 _) = X0
  obtain ⟨Z, t0, hX1, hZ⟩ : ∃ Z t0, w1.drew.alloc (.cells Z t0) = X0 ∧ Z.size = 33 := ⟨_, _, hX0, rfl⟩
  obtain ⟨X, hst, hUX, hbX⟩ := fresh_store (W := w1.drew) hv0 hv1 Z t0 hZ
  rw [hX1] at hst
  clear hX0 hX1 hZ hUX
  refine Zs.one (i := 11) (oi := ⟨none, _, _, _, _, _⟩) (by kernel_rfl) rfl (fun K hK => ?_)
  refine step_storeU rfl _ _ rfl _ rfl _ rfl hv0 hst ?_
  refine hK.out _ _ (fun q => absurd q (by decide)) ?_
  clear hK K
  try simp only [Act.put]
  refine Zs.one (i := 12) (oi := ⟨some 6, _, _, _, _, _⟩) (by kernel_rfl) rfl (fun K hK => ?_)
  go_simp
  refine hK.out _ _ (fun q => absurd q (by decide)) ?_
  clear hK K
  try simp only [Act.put, List.setIfInBounds_toArray, List.set_cons_zero, List.set_cons_succ]
  refine Zs.done (by kernel_rfl) ?_ _
  have bX : Below w.heap.size w X := b01H.out.drew.trans (hbX.mono (by have := b01H.out.size; exact this))
  have UX : Ub n vs X := (U1H.out.mv (Mv.drew (fun _ => False) _) (fun q => q)).mv (Mv.below (E := fun _ => False) hbX) (fun q => q)
  have bXH := hidP bX
  have UXH := hidP UX
  have d0 := cgH.out X bX
  have dl : (Builtin.len_ #[101] 3 #[.map (some ub)]).run Tryz.prog X = .ok (.int .i64 (L.length : Nat)) X := by
    have q := (hH.out.below bX).un.len (t := 101) Tryz.underlying101 3
    rw [hub] at q; exact q
  have hlt : decide ((40 : Int) ≤ (L.length : Nat)) = false := by simp; omega
  have hlt2 : ¬ (40 : Int) ≤ (L.length : Nat) := by omega
  have heq : ∀ w, (binOp .eql 101 (.map (some ub)) (.map none)).run Tryz.prog w = .ok (.bool false) w := fun w => by first | kernel_rfl | rfl
  subst hth
  have sU : (loadCells ⟨n, 0, none⟩ 33).run Tryz.prog X.drew = .ok vs X.drew := (UX.mv (Mv.drew (fun _ => False) _) (fun q => q)).load hsv
  have hS10 : X.drew.cell? ⟨gb, 0, none⟩ = some (.map (some ub)) ∧ X.drew.cell? ⟨n, 0, none⟩ = some (.string nm) ∧ (loadCells ⟨n, 0, none⟩ 33).run Tryz.prog X.drew = .ok vs X.drew := ⟨cgH.out _ bX.drew, by have := UX 0 _ huH.out.c0; rw [hnmH.out] at this; exact this, sU⟩
  have hcp := copied_any vs u X.drew (huH.out.below bX.drew)
  clear hS3 hSal hst hbX bX UX sU
  go_wp2_with fail
  refine Zs.region (S := (fun y => y.cell? ⟨gb, 0, none⟩ = some (.map (some ub)) ∧ y.cell? ⟨n, 0, none⟩ = some (.string nm) ∧ (loadCells ⟨n, 0, none⟩ 33).run Tryz.prog y = .ok vs y)) 8 (by kernel_rfl) ?_
  refine Zs.pure (i := 0) (oi := ⟨some 46, _, _, _, _, _⟩) (v := ?v0x2) rfl (by kernel_rfl) (by kernel_rfl) (by kernel_rfl) (by decide) (fun _ _ _ h => h) (Or.inl ⟨by rfl, ?hy0x2⟩) hS10 ?_
  case hy0x2 => (intro w hSw; (try dsimp only at hSw); go_simp; try with_reducible rfl)
  simp only [Act.put, List.setIfInBounds_toArray, List.set_cons_zero, List.set_cons_succ]
  refine Zs.pure (i := 1) (oi := ⟨some 47, _, _, _, _, _⟩) (v := ?v1x2) rfl (by kernel_rfl) (by kernel_rfl) (by kernel_rfl) (by decide) (fun _ _ _ h => h) (Or.inl ⟨by rfl, ?hy1x2⟩) hS10 ?_
  case hy1x2 => (intro w hSw; (try dsimp only at hSw); go_simp; try with_reducible rfl)
  simp only [Act.put, List.setIfInBounds_toArray, List.set_cons_zero, List.set_cons_succ]
  refine Zs.pure (i := 2) (oi := ⟨some 48, _, _, _, _, _⟩) (v := ?v2x2) rfl (by kernel_rfl) (by kernel_rfl) (by kernel_rfl) (by decide) (fun _ _ _ h => h) (Or.inl ⟨by rfl, ?hy2x2⟩) hS10 ?_
  case hy2x2 => (intro w hSw; (try dsimp only at hSw); go_simp; try with_reducible rfl)
  simp only [Act.put, List.setIfInBounds_toArray, List.set_cons_zero, List.set_cons_succ]
  refine Zs.take (i := 3) (oi := ⟨some 49, _, _, _, _, _⟩) (v := ?s3) rfl (by kernel_rfl) (by kernel_rfl) (by kernel_rfl) (by decide) (by kernel_rfl) (by kernel_rfl) (fun _ _ _ h => h) (Or.inl ⟨by rfl, ?hy3x2⟩) hS10 ?_
  case hy3x2 => (intro w hSw; (try dsimp only at hSw); go_simp; try with_reducible rfl)
  simp only [Act.put, List.setIfInBounds_toArray, List.set_cons_zero, List.set_cons_succ]
  refine Zs.pure (i := 4) (oi := ⟨some 50, _, _, _, _, _⟩) (v := ?v4x2) rfl (by kernel_rfl) (by kernel_rfl) (by kernel_rfl) (by decide) (fun _ _ _ h => h) (Or.inl ⟨by rfl, ?hy4x2⟩) hS10 ?_
  case hy4x2 => (intro w hSw; (try dsimp only at hSw); go_simp; try with_reducible rfl)
  simp only [Act.put, List.setIfInBounds_toArray, List.set_cons_zero, List.set_cons_succ]
  refine Zs.take (i := 5) (oi := ⟨some 51, _, _, _, _, _⟩) (v := ?s5) rfl (by kernel_rfl) (by kernel_rfl) (by kernel_rfl) (by decide) (by kernel_rfl) (by kernel_rfl) (fun _ _ _ h => h) (Or.inl ⟨by rfl, ?hy5x2⟩) hS10 ?_
  case hy5x2 => (intro w hSw; (try dsimp only at hSw); go_simp; try with_reducible rfl)
  simp only [Act.put, List.setIfInBounds_toArray, List.set_cons_zero, List.set_cons_succ]
  refine Zs.take (i := 6) (oi := ⟨some 52, _, _, _, _, _⟩) (v := .agg vs) rfl (by kernel_rfl) (by kernel_rfl) (by kernel_rfl) (by decide) (by kernel_rfl) (by kernel_rfl) (fun _ _ _ h => h) (Or.inl ⟨by rfl, fun w hSw => exec_loadU _ rfl _ rfl _ hSw.2.2⟩) hS10 ?_
  simp only [Act.put, List.setIfInBounds_toArray, List.set_cons_zero, List.set_cons_succ]
  refine Zs.one (i := 7) (oi := ⟨some 53, _, _, _, _, _⟩) (by kernel_rfl) rfl (fun K hK => ?_)
  go_simp
  refine hcp.mono ?_
  rintro e w2 ⟨cs, rfl, hcs, hfr, hb2⟩
  have bw2 : Below w.heap.size w w2 := bXH.out.drew.trans (hb2.mono (by have := bXH.out.size; exact this))
  have U2 : Ub n vs w2 := (UXH.out.mv (Mv.drew (fun _ => False) _) (fun q => q)).mv (Mv.below (E := fun _ => False) hb2) (fun q => q)
  have hfr2 : ∀ b, ubk cs b → w.heap.size ≤ b := fun b hb => by have := hfr b hb; have := bXH.out.size; change X.heap.size ≤ b at *; omega
  refine hK.out _ _ (fun _ => ⟨cgH.out _ bw2, by have := U2 0 _ huH.out.c0; rw [hnmH.out] at this; exact this, U2.load hsv⟩) ?_
  clear hK K
  try simp only [Act.put, List.setIfInBounds_toArray, List.set_cons_zero, List.set_cons_succ]
  obtain ⟨w3, hup, hM, m3⟩ := (hH.out.below bw2).un.store lawS (fun _ _ => eS_inj) klS (t := 101) Tryz.underlying101 (a := nm) (keyS (by rw [← hnmH.out]; omega)) (.agg cs) (by unfold maxLen; omega)
  rw [hub] at hup hM m3
  have U3 : Ub n vs w3 := U2.mv m3 (by omega)
  have hld3 := U3.load hsv
  rw [← hnmH.out, hnoH.out] at hM
  simp only [Option.map_none, Option.isSome_none, upN, Bool.false_eq_true, if_false] at hM
  have g2 := (hH.out.below bw2).ed
  have g3 : Gd w3 S (kL L) := g2.mv m3 (fun k hk e => hH.out.nu (by rw [hub, ← e]; exact hk)) (fun e => hH.out.ng (hub.trans e.symm))
  have hcnt := gcount_any S (kL L) vs u w3 g3 ((huH.out.below bw2).mv m3 (fun b hb e => eH.out.2.2 b hb (.inr (.inl (e.trans hub.symm))))) 1 (.inl rfl) (by omega) hcH.out hszH.out
    ((hglH.out.below bw2).mv m3 (fun e => eH.out.1 (.inr (.inl (e.trans hub.symm)))) (fun e => eH.out.2.1 (.inr (.inl (e.trans hub.symm))))) (fun q => eH.out.1 (.inr (.inr q))) (fun q => eH.out.2.1 (.inr (.inr q))) (fun b hb q => eH.out.2.2 b hb (.inr (.inr q)))
  rw [hgb] at hcnt
  have bwH := hidP bw2
  have hcsH := hidP hcs
  have hfH := hidP hfr2
  have hMH := hidP hM
  have m3H := hidP m3
  clear hcp hcs hfr hb2 bw2 U2 hfr2 hM m3 U3 g2 g3 hS10
  refine Zs.one (i := 8) (oi := ⟨none, _, _, _, _, _⟩) (by kernel_rfl) rfl (fun K hK => ?_)
  go_simp
  refine hK.out _ _ (fun q => absurd q (by decide)) ?_
  clear hK K
  try simp only [Act.put]
  refine Zs.done (by kernel_rfl) ?_ _
  go_wp2_with (refine wpList_loadU rfl _ rfl _ rfl _ hld3 ?_)
  refine hcnt.mono ?_
  rintro e w4 ⟨rfl, S', hG', hgo⟩
  have fin := hidP (hH.out.come (cs := cs) (u := u) bwH.out hcsH.out hfH.out hnH.out hnoH.out hszH.out (by rw [hub]; exact m3H.out) (by rw [hub]; exact hMH.out) hG' hgo)
  clear hcnt hG' hgo hld3 hup
  go_wp2_with fail
  go_ret
  exact ⟨rfl, S', cs, fin.out.1, fin.out.2, hfH.out⟩
end Go.Proofs.YtedgnigogkmgkaaGreatDoor
/- Units as the laws write them; Remove of a name that is not there. -/
namespace Go.Proofs.YtedgnigogkmgkaaGreatDoor
open Go.RowKit Go.Shelf Go.Lib
abbrev nilV : Value := .slice none 0 0
def litU (nm : ByteArray) (kd : Int) (wa be : Value) (pl : Bool) (li : ByteArray) : Array Value := #[.string nm, .int .i64 kd, .int .i64 0, wa, .slice none 0 0, .slice none 0 0, .slice none 0 0, .slice none 0 0, .slice none 0 0, be, .bool pl, .int .i64 0, .int .i64 0, .int .i64 0, .slice none 0 0, .slice none 0 0, .slice none 0 0, .int .i64 0, .int .i64 0, .int .i64 0, .int .i64 0, .int .i64 0, .int .i64 0, .bool false, .string li, .string ⟨#[]⟩, .int .i64 0, .int .i64 0, .slice none 0 0, .slice none 0 0, .slice none 0 0, .string ⟨#[]⟩, .string ⟨#[]⟩]
def unU (nm : ByteArray) (kd : Int) (lw lb : List ByteArray) (wa be : Value) (pl : Bool) (li : ByteArray) : Un := ⟨nm, kd, ⟨#[]⟩, pl, fun i => if i = 0 then lw else if i = 6 then lb else [], fun p => ((litU nm kd wa be pl li)[p]?).getD (.bool false)⟩
theorem pos33 {p : Nat} (h1 : p < 33) (h2 : p ∉ posL) : p = 0 ∨ p = 1 ∨ p = 2 ∨ p = 10 ∨ p = 11 ∨ p = 12 ∨ p = 13 ∨ p = 17 ∨ p = 18 ∨ p = 19 ∨ p = 20 ∨ p = 21 ∨ p = 22 ∨ p = 23 ∨ p = 24 ∨ p = 25 ∨ p = 26 ∨ p = 27 ∨ p = 31 ∨ p = 32 := by
  unfold posL at h2
  simp only [List.mem_cons, List.not_mem_nil, or_false, not_or] at h2
  omega
theorem lit_uv (w : World) (nm : ByteArray) (kd : Int) (lw lb : List ByteArray) (wa be : Value) (pl : Bool) (li : ByteArray) (hw : NR w wa lw) (hb : NR w be lb) : UV w (litU nm kd wa be pl li) (unU nm kd lw lb wa be pl li) := by
  have ho : ∀ p, p < 33 → p ∉ posL → ∃ v, (litU nm kd wa be pl li)[p]? = some v ∧ rbk v = none ∧ v.oneCell' = true := fun p h1 h2 => by
    rcases pos33 h1 h2 with rfl | rfl | rfl | rfl | rfl | rfl | rfl | rfl | rfl | rfl | rfl | rfl | rfl | rfl | rfl | rfl | rfl | rfl | rfl | rfl <;> exact ⟨_, rfl, rfl, rfl⟩
  have hl : ∀ (i p : Nat), posL[i]? = some p → ∃ v, (litU nm kd wa be pl li)[p]? = some v ∧ NR w v ((unU nm kd lw lb wa be pl li).ls i) := fun i p hp => by
    have hn0 : NR w (.slice none 0 0) [] := .inl ⟨rfl, none, 0, rfl⟩
    have hi := (posL_lt hp).2
    match i, hi, hp with
    | 0, _, hp => cases hp; exact ⟨wa, rfl, hw⟩
    | 1, _, hp => cases hp; exact ⟨_, rfl, hn0⟩
    | 2, _, hp => cases hp; exact ⟨_, rfl, hn0⟩
    | 3, _, hp => cases hp; exact ⟨_, rfl, hn0⟩
    | 4, _, hp => cases hp; exact ⟨_, rfl, hn0⟩
    | 5, _, hp => cases hp; exact ⟨_, rfl, hn0⟩
    | 6, _, hp => cases hp; exact ⟨be, rfl, hb⟩
    | 7, _, hp => cases hp; exact ⟨_, rfl, hn0⟩
    | 8, _, hp => cases hp; exact ⟨_, rfl, hn0⟩
    | 9, _, hp => cases hp; exact ⟨_, rfl, hn0⟩
    | 10, _, hp => cases hp; exact ⟨_, rfl, hn0⟩
    | 11, _, hp => cases hp; exact ⟨_, rfl, hn0⟩
    | 12, _, hp => cases hp; exact ⟨_, rfl, hn0⟩
  refine ⟨rfl, fun p v hv => ?_, rfl, rfl, rfl, rfl, hl, fun p h1 h2 => ?_⟩
  · have hp : p < 33 := (Array.getElem?_eq_some_iff.1 hv).1
    by_cases hm : p ∈ posL
    · obtain ⟨i, hi⟩ := List.mem_iff_getElem?.1 hm
      obtain ⟨v2, q1, q2⟩ := hl i p hi
      rw [hv] at q1; cases q1
      exact q2.one
    · obtain ⟨v2, q1, _, q3⟩ := ho p hp hm
      rw [hv] at q1; cases q1
      exact q3
  · obtain ⟨v, q1, q2, _⟩ := ho p h1 h2
    have : (unU nm kd lw lb wa be pl li).ot p = v := by show ((litU nm kd wa be pl li)[p]?).getD _ = v; rw [q1]; rfl
    rw [this]
    exact ⟨q1, q2⟩
theorem lit_ubk {nm : ByteArray} {kd : Int} {wa be : Value} {pl : Bool} {li : ByteArray} {b : Nat} (h : ubk (litU nm kd wa be pl li) b) : rbk wa = some b ∨ rbk be = some b := by
  obtain ⟨p, v, h1, h2⟩ := h
  have hp : p < 33 := (Array.getElem?_eq_some_iff.1 h1).1
  match p, hp, h1 with
  | 3, _, h1 => cases h1; exact .inl h2
  | 9, _, h1 => cases h1; exact .inr h2
  | 0, _, h1 => cases h1; cases h2
  | 1, _, h1 => cases h1; cases h2
  | 2, _, h1 => cases h1; cases h2
  | 4, _, h1 => cases h1; cases h2
  | 5, _, h1 => cases h1; cases h2
  | 6, _, h1 => cases h1; cases h2
  | 7, _, h1 => cases h1; cases h2
  | 8, _, h1 => cases h1; cases h2
  | 10, _, h1 => cases h1; cases h2
  | 11, _, h1 => cases h1; cases h2
  | 12, _, h1 => cases h1; cases h2
  | 13, _, h1 => cases h1; cases h2
  | 14, _, h1 => cases h1; cases h2
  | 15, _, h1 => cases h1; cases h2
  | 16, _, h1 => cases h1; cases h2
  | 17, _, h1 => cases h1; cases h2
  | 18, _, h1 => cases h1; cases h2
  | 19, _, h1 => cases h1; cases h2
  | 20, _, h1 => cases h1; cases h2
  | 21, _, h1 => cases h1; cases h2
  | 22, _, h1 => cases h1; cases h2
  | 23, _, h1 => cases h1; cases h2
  | 24, _, h1 => cases h1; cases h2
  | 25, _, h1 => cases h1; cases h2
  | 26, _, h1 => cases h1; cases h2
  | 27, _, h1 => cases h1; cases h2
  | 28, _, h1 => cases h1; cases h2
  | 29, _, h1 => cases h1; cases h2
  | 30, _, h1 => cases h1; cases h2
  | 31, _, h1 => cases h1; cases h2
  | 32, _, h1 => cases h1; cases h2
/-- What counts of a unit is not what else it holds. -/
theorem tol_core (nm : ByteArray) (kd : Int) (lw lb : List ByteArray) (wa be : Value) (pl : Bool) (li : ByteArray) : tolU (unU nm kd lw lb wa be pl li) = tolU (unU nm kd lw lb nilV nilV pl ⟨#[]⟩) := rfl
theorem rel_core (nm : ByteArray) (kd : Int) (lw lb : List ByteArray) (wa be : Value) (pl : Bool) (li : ByteArray) : relsU (unU nm kd lw lb wa be pl li) = relsU (unU nm kd lw lb nilV nilV pl ⟨#[]⟩) := rfl
theorem kL_one (cs : Array Value) (u : Un) (f : Ed) : kL [(cs, u)] f = (cn f (tolU u) : Nat) := by
  unfold kL
  simp
set_option maxRecDepth 100000 in
set_option maxHeartbeats 4000000 in
theorem remove_none (S : GS) (L : UL) (x : ByteArray) (w : World) (h : Gs w S L) (hx : x.size ≤ 1000) (hno : lku L x = none) :
    Calls Tryz.prog 56 #[.pointer (some ⟨S.gb, 0, none⟩), .string x] w fun e w' => e = .returned (.int .i64 150) ∧ Below w.heap.size w w' := by
  have c0 := h.c0
  have hlk := h.un.look lawS (t := 101) Tryz.underlying101 (zeroUn w) (a := x) (keyS hx)
  rw [hno] at hlk
  simp only [Option.map_none, Option.getD_none, Option.isSome_none] at hlk
  obtain ⟨v0, hv0e⟩ : ∃ v0 : Array Value, v0 = zuA := ⟨_, rfl⟩
  rw [← hv0e] at hlk
  have hv0 : v0.size = 33 := by rw [hv0e]; rfl
  have hv1 : ∀ (p : Nat) (v : Value), v0[p]? = some v → v.oneCell' = true := by rw [hv0e]; exact zu_one
  clear h hv0e hno
  obtain ⟨X, hst, _, hbX⟩ := fresh_store (W := w) hv0 hv1 zuA 30 rfl
  have hfin := hidP hbX
  obtain ⟨X0, hX0⟩ : ∃ X0, w.alloc (.cells zuA 30) = X0 := ⟨_, rfl⟩
  rw [hX0] at hst
  unfold zuA at hX0
  clear hv1 hbX
  go_enter Tryz.func56, Tryz.ntmps56
  go_wp2_with (first | rw [hX0] | refine wpList_storeU rfl _ _ rfl _ rfl _ rfl hv0 hst ?_)
  go_ret
  exact ⟨rfl, hfin.out⟩
end Go.Proofs.YtedgnigogkmgkaaGreatDoor
/- GraphWalks, plainly: names, what each leads to, the row of what is reached. -/
namespace Go.Proofs.YtedgnigogkmgkaaGreatDoor
open Go.RowKit Go.Shelf Go.Lib
def ltrW : ByteArray := ⟨#[97, 98, 99, 100, 101, 102, 103, 104, 105, 106, 107, 108, 109, 110, 111, 112]⟩
def tgt : ByteArray := ⟨#[46, 116, 97, 114, 103, 101, 116]⟩
def nmW (i : Nat) : ByteArray := ltrW.extract i (i + 1) ++ tgt
theorem nmW_is : ∀ i : Fin 16, isN (nmW i.1) = true := by decide +kernel
theorem nmW_inj' : ∀ i j : Fin 16, nmW i.1 = nmW j.1 → i = j := by decide +kernel
theorem nmW_inj {i j : Nat} (hi : i < 16) (hj : j < 16) (h : nmW i = nmW j) : i = j := by
  have := nmW_inj' ⟨i, hi⟩ ⟨j, hj⟩ h
  injection this
theorem nmW_size' : ∀ i : Fin 16, (nmW i.1).size = 8 := by decide +kernel
theorem nmW_size {i : Nat} (hi : i < 16) : (nmW i).size = 8 := nmW_size' ⟨i, hi⟩
theorem nmW_lt' : ∀ i j : Fin 16, i.1 ≤ j.1 → decide (byt (nmW i.1) ≤ byt (nmW j.1)) = true := by decide +kernel
theorem nmW_le {i j : Nat} (h : i ≤ j) (hj : j < 16) : byt (nmW i) ≤ byt (nmW j) := of_decide_eq_true (nmW_lt' ⟨i, by omega⟩ ⟨j, hj⟩ h)
def nbd : ByteArray := ⟨#[110, 111, 98, 111, 100, 121, 46, 116, 97, 114, 103, 101, 116]⟩
theorem nbd_ne' : ∀ i : Fin 16, nmW i.1 ≠ nbd := by decide +kernel
/-- The unit i, that wants k: its cells, what they tell. -/
def litT (nm : ByteArray) (wa : Value) : Array Value := #[.string nm, .int .i64 6, .int .i64 1, wa, .slice none 0 0, .slice none 0 0, .slice none 0 0, .slice none 0 0, .slice none 0 0, .slice none 0 0, .bool false, .int .i64 0, .int .i64 0, .int .i64 0, .slice none 0 0, .slice none 0 0, .slice none 0 0, .int .i64 0, .int .i64 0, .int .i64 0, .int .i64 0, .int .i64 0, .int .i64 0, .bool false, .string ⟨#[]⟩, .string ⟨#[]⟩, .int .i64 0, .int .i64 0, .slice none 0 0, .slice none 0 0, .slice none 0 0, .string ⟨#[]⟩, .string ⟨#[]⟩]
def unT (nm : ByteArray) (lw : List ByteArray) (wa : Value) : Un := { unU nm 6 lw [] wa nilV false ⟨#[]⟩ with ot := fun p => if p = 2 then .int .i64 1 else (unU nm 6 lw [] wa nilV false ⟨#[]⟩).ot p }
theorem litT_at (nm : ByteArray) (wa : Value) {p : Nat} (h : p ≠ 2) : (litT nm wa)[p]? = (litU nm 6 wa nilV false ⟨#[]⟩)[p]? := by
  by_cases hp : p < 33
  · have key : p = 0 ∨ p = 1 ∨ p = 2 ∨ p = 3 ∨ p = 4 ∨ p = 5 ∨ p = 6 ∨ p = 7 ∨ p = 8 ∨ p = 9 ∨ p = 10 ∨ p = 11 ∨ p = 12 ∨ p = 13 ∨ p = 14 ∨ p = 15 ∨ p = 16 ∨ p = 17 ∨ p = 18 ∨ p = 19 ∨ p = 20 ∨ p = 21 ∨ p = 22 ∨ p = 23 ∨ p = 24 ∨ p = 25 ∨ p = 26 ∨ p = 27 ∨ p = 28 ∨ p = 29 ∨ p = 30 ∨ p = 31 ∨ p = 32 := by omega
    rcases key with rfl | rfl | rfl | rfl | rfl | rfl | rfl | rfl | rfl | rfl | rfl | rfl | rfl | rfl | rfl | rfl | rfl | rfl | rfl | rfl | rfl | rfl | rfl | rfl | rfl | rfl | rfl | rfl | rfl | rfl | rfl | rfl | rfl <;> first | rfl | exact absurd rfl h
  · have h1 : (litT nm wa).size = 33 := rfl
    have h2 : (litU nm 6 wa nilV false ⟨#[]⟩).size = 33 := rfl
    rw [Array.getElem?_eq_none (by omega), Array.getElem?_eq_none (by omega)]
theorem litT_uv (w : World) (nm : ByteArray) (lw : List ByteArray) (wa : Value) (hw : NR w wa lw) : UV w (litT nm wa) (unT nm lw wa) := by
  have h := lit_uv w nm 6 lw [] wa nilV false ⟨#[]⟩ hw (.inl ⟨rfl, none, 0, rfl⟩)
  refine ⟨rfl, fun p v hv => ?_, rfl, rfl, rfl, rfl, fun i p hp => ?_, fun p h1 h2 => ?_⟩
  · by_cases e : p = 2
    · subst e; cases hv; rfl
    · rw [litT_at nm wa e] at hv; exact h.on p v hv
  · have e : p ≠ 2 := by
      rintro rfl
      have := List.mem_of_getElem? hp
      revert this; decide
    rw [litT_at nm wa e]
    exact h.ls i p hp
  · by_cases e : p = 2
    · subst e; exact ⟨rfl, rfl⟩
    · rw [litT_at nm wa e]
      have := h.os p h1 h2
      have e2 : (unT nm lw wa).ot p = (unU nm 6 lw [] wa nilV false ⟨#[]⟩).ot p := by show (if p = 2 then _ else _) = _; rw [if_neg e]
      rw [e2]; exact this
theorem litT_ubk {nm : ByteArray} {wa : Value} {b : Nat} (h : ubk (litT nm wa) b) : rbk wa = some b := by
  obtain ⟨p, v, h1, h2⟩ := h
  have e : p ≠ 2 := by rintro rfl; cases h1; cases h2
  rw [litT_at nm wa e] at h1
  rcases lit_ubk (b := b) ⟨p, v, h1, h2⟩ with q | q
  · exact q
  · cases q
def tolW (a b : ByteArray) : List Ed := if b = a then [] else [(1, a, b), (6, a, b)]
theorem tolT (a b : ByteArray) (wa : Value) (hb : isN b = true) : tolU (unT a [b] wa) = tolW a b := by
  have h : tolU (unT a [b] wa) = tolU (unU a 6 [b] [] nilV nilV false ⟨#[]⟩) := rfl
  rw [h]
  unfold tolU relsU rels7 relsT relsD hasTg unU edR okO tolW edO
  by_cases e : b = a
  · subst e; simp
  · simp [e, hb]
theorem relT (a b : ByteArray) (wa : Value) (hb : b.size ≤ 60) : ∀ r ∈ relsU (unT a [b] wa), ∀ s ∈ r.2.2, s.size ≤ 2000000 := by
  have h : relsU (unT a [b] wa) = [(1, false, [b]), (2, false, []), (3, false, []), (4, false, []), (5, false, []), (6, false, []), (6, true, []), (6, false, [b]), (6, false, [])] := by
    have : relsU (unT a [b] wa) = relsU (unU a 6 [b] [] nilV nilV false ⟨#[]⟩) := rfl
    rw [this]
    unfold relsU rels7 relsT relsD hasTg unU
    simp
  rw [h]
  intro r hr s hs
  simp only [List.mem_cons, List.not_mem_nil, or_false] at hr
  rcases hr with rfl | rfl | rfl | rfl | rfl | rfl | rfl | rfl | rfl <;> simp at hs <;> subst hs <;> omega
/-- Where each one leads. -/
def Tt (to : List Nat) (i : Nat) : Nat := (to[i]?.getD 0) % to.length
theorem Tt_lt {to : List Nat} (h : 0 < to.length) (i : Nat) : Tt to i < to.length := Nat.mod_lt _ h
def itN (f : Nat → Nat) : Nat → Nat → Nat
  | 0, r => r
  | k + 1, r => f (itN f k r)
theorem itN_add (f : Nat → Nat) (k m r : Nat) : itN f (k + m) r = itN f k (itN f m r) := by
  induction k with
  | zero => rw [Nat.zero_add]; rfl
  | succ k ih => rw [Nat.succ_add]; show f _ = f _; rw [ih]
/-- Once back among what was reached, nothing new comes. -/
theorem itN_closed {f : Nat → Nat} {r m k : Nat} (hk : k < m) (h : itN f k r = itN f m r) : ∀ j, ∃ i, i < m ∧ itN f i r = itN f j r := by
  intro j
  induction j with
  | zero => exact ⟨0, by omega, rfl⟩
  | succ j ih =>
    obtain ⟨i, hi, e⟩ := ih
    by_cases q : i + 1 < m
    · exact ⟨i + 1, q, by show f _ = f _; rw [e]⟩
    · obtain rfl : m = i + 1 := by omega
      exact ⟨k, hk, by rw [h]; show f _ = f _; rw [e]⟩
theorem itN_lt {f : Nat → Nat} {n r : Nat} (hf : ∀ i, f i < n) (hr : r < n) (k : Nat) : itN f k r < n := by
  cases k with
  | zero => exact hr
  | succ k => exact hf _
/-- The row of units of GraphWalks, i of them added. -/
structure Wk (to : List Nat) (i : Nat) (L : UL) : Prop where
  len : L.length = i
  mem : ∀ x, Dom L x ↔ ∃ j, j < i ∧ nmW j = x
  tol : ∀ p ∈ L, ∃ j, j < i ∧ p.2.nm = nmW j ∧ tolU p.2 = tolW (nmW j) (nmW (Tt to j))
  all : ∀ j, j < i → ∃ p ∈ L, p.2.nm = nmW j
theorem Wk.nil (to : List Nat) : Wk to 0 [] := ⟨rfl, fun x => ⟨fun h => (by cases h), fun ⟨j, h, _⟩ => (by omega)⟩, (fun p hp => by cases hp), fun j h => (by omega)⟩
theorem Wk.add {to : List Nat} {i : Nat} {L : UL} {cs : Array Value} {wa : Value} (h : Wk to i L) (hn : isN (nmW (Tt to i)) = true) : Wk to (i + 1) ((cs, unT (nmW i) [nmW (Tt to i)] wa) :: L) := by
  refine ⟨by rw [List.length_cons, h.len], fun x => ?_, fun p hp => ?_, fun j hj => ?_⟩
  · unfold Dom
    rw [lku_cons]
    by_cases e : (cs, unT (nmW i) [nmW (Tt to i)] wa).2.nm = x
    · rw [if_pos e]
      exact ⟨fun _ => ⟨i, by omega, e⟩, fun _ => rfl⟩
    · rw [if_neg e]
      have := h.mem x
      unfold Dom at this
      rw [this]
      constructor
      · rintro ⟨j, h1, h2⟩; exact ⟨j, by omega, h2⟩
      · rintro ⟨j, h1, h2⟩
        refine ⟨j, ?_, h2⟩
        rcases Nat.lt_or_ge j i with q | q
        · exact q
        · obtain rfl : j = i := by omega
          exact absurd h2 e
  · rcases List.mem_cons.1 hp with rfl | hp
    · exact ⟨i, by omega, rfl, tolT _ _ _ hn⟩
    · obtain ⟨j, h1, h2, h3⟩ := h.tol p hp
      exact ⟨j, by omega, h2, h3⟩
  · rcases Nat.lt_or_ge j i with q | q
    · obtain ⟨p, h1, h2⟩ := h.all j q
      exact ⟨p, List.mem_cons_of_mem _ h1, h2⟩
    · obtain rfl : j = i := by omega
      exact ⟨_, List.mem_cons_self .., rfl⟩
theorem kL_mem {L : UL} {f : Ed} : kL L f ≠ 0 ↔ ∃ p ∈ L, f ∈ tolU p.2 := by
  unfold kL
  rw [show ((cn f (L.flatMap fun p => tolU p.2) : Nat) : Int) ≠ 0 ↔ cn f (L.flatMap fun p => tolU p.2) ≠ 0 by omega, cn_mem, List.mem_flatMap]
theorem Wk.ld {to : List Nat} {i : Nat} {L : UL} (h : Wk to i L) (hi : i ≤ 16) (y z : ByteArray) : Ld L y z ↔ ∃ j, j < i ∧ y = nmW j ∧ z = nmW (Tt to j) ∧ z ≠ y := by
  unfold Ld
  constructor
  · rintro ⟨k, hk, hz⟩
    obtain ⟨p, hp, hm⟩ := kL_mem.1 hz
    obtain ⟨j, h1, h2, h3⟩ := h.tol p hp
    rw [h3] at hm
    unfold tolW at hm
    split at hm
    · cases hm
    · next hne =>
      simp only [List.mem_cons, Prod.mk.injEq, List.not_mem_nil, or_false] at hm
      rcases hm with ⟨_, rfl, rfl⟩ | ⟨_, rfl, rfl⟩
      · exact ⟨j, h1, rfl, rfl, hne⟩
      · exact ⟨j, h1, rfl, rfl, hne⟩
  · rintro ⟨j, h1, rfl, rfl, hne⟩
    obtain ⟨p, hp, hn⟩ := h.all j h1
    obtain ⟨j', g1, g2, g3⟩ := h.tol p hp
    refine ⟨1, rfl, kL_mem.2 ⟨p, hp, ?_⟩⟩
    obtain rfl : j = j' := nmW_inj (by omega) (by omega) (hn.symm.trans g2)
    rw [g3]
    unfold tolW
    rw [if_neg hne]
    simp
theorem Wk.rch {to : List Nat} {L : UL} (h : Wk to to.length L) (hi : to.length ≤ 16) {a y : ByteArray} (hr : Rch L a y) : ∀ r, r < to.length → a = nmW r → ∃ k, y = nmW (itN (Tt to) k r) := by
  induction hr with
  | refl x => exact fun r _ e => ⟨0, e⟩
  | step a b c h1 h2 h3 ih =>
    intro r hr e
    obtain ⟨j, q1, q2, q3, _⟩ := (h.ld hi a b).1 h1
    obtain rfl : r = j := nmW_inj (by omega) (by omega) (e.symm.trans q2)
    obtain ⟨k, hk⟩ := ih (Tt to r) (Tt_lt (by omega) r) q3
    exact ⟨k + 1, by rw [hk, itN_add]; rfl⟩
theorem Wk.rch2 {to : List Nat} {L : UL} (h : Wk to to.length L) (hi : to.length ≤ 16) {r : Nat} (hr : r < to.length) : ∀ k, Rch L (nmW r) (nmW (itN (Tt to) k r))
  | 0 => .refl _
  | k + 1 => by
    have hl := itN_lt (fun i => Tt_lt (to := to) (by omega) i) hr k
    have h1 := Tt_lt (to := to) (by omega) (itN (Tt to) k r)
    have ih := Wk.rch2 h hi hr k
    show Rch L _ (nmW (Tt to (itN (Tt to) k r)))
    by_cases e : nmW (Tt to (itN (Tt to) k r)) = nmW (itN (Tt to) k r)
    · rw [e]; exact ih
    · exact ih.tail ((h.ld hi _ _).2 ⟨_, hl, rfl, rfl, e⟩) ((h.mem _).2 ⟨_, h1, rfl⟩)
/-- What is reached, as the law reckons it: b tells of each whether it is. -/
structure Inb (to : List Nat) (r : Nat) (b : Nat → Bool) : Prop where
  iff : ∀ j, b j = true ↔ ∃ k, itN (Tt to) k r = j
def pick (b : Nat → Bool) (n : Nat) : List ByteArray := ((List.range n).filter b).map nmW
theorem pick_mem {b : Nat → Bool} {n : Nat} {y : ByteArray} : y ∈ pick b n ↔ ∃ j, j < n ∧ b j = true ∧ nmW j = y := by
  unfold pick
  rw [List.mem_map]
  constructor
  · rintro ⟨j, h1, h2⟩
    obtain ⟨h3, h4⟩ := List.mem_filter.1 h1
    exact ⟨j, List.mem_range.1 h3, h4, h2⟩
  · rintro ⟨j, h1, h2, h3⟩
    exact ⟨j, List.mem_filter.2 ⟨List.mem_range.2 h1, h2⟩, h3⟩
theorem pick_nodup {b : Nat → Bool} {n : Nat} (hn : n ≤ 16) : (pick b n).Nodup := by
  unfold pick
  rw [List.Nodup, List.pairwise_map]
  refine List.Pairwise.imp_of_mem (R := fun a b => a < b) (fun {a b} ha hb h e => ?_) ((List.pairwise_lt_range).filter _)
  have := List.mem_range.1 (List.mem_filter.1 ha).1
  have := List.mem_range.1 (List.mem_filter.1 hb).1
  have := nmW_inj (by omega) (by omega) e
  omega
theorem pick_sorted {b : Nat → Bool} {n : Nat} (hn : n ≤ 16) : ((pick b n).map byt).Pairwise (· ≤ ·) := by
  unfold pick
  rw [List.map_map, List.pairwise_map]
  refine List.Pairwise.imp_of_mem (R := fun a b => a < b) (fun {a b} ha hb h => ?_) ((List.pairwise_lt_range).filter _)
  have := List.mem_range.1 (List.mem_filter.1 hb).1
  exact nmW_le (by omega) (by omega)
theorem pick_length {b : Nat → Bool} {n : Nat} : (pick b n).length ≤ n := by
  unfold pick
  rw [List.length_map]
  exact Nat.le_trans (List.length_filter_le _ _) (by simp)
theorem pick_succ {b : Nat → Bool} {n : Nat} : pick b (n + 1) = if b n = true then pick b n ++ [nmW n] else pick b n := by
  unfold pick
  rw [List.range_succ, List.filter_append, List.map_append]
  by_cases h : b n = true <;> simp [h]
/-- The names of all units, in order. -/
theorem Wk.names {to : List Nat} {n : Nat} {L : UL} (h : Wk to n L) (hn : n ≤ 16) (hnd : L.Pairwise fun p q => p.2.nm ≠ q.2.nm) : (L.map fun p => p.2.nm).Perm (pick (fun _ => true) n) := by
  refine (List.perm_ext_iff_of_nodup (List.pairwise_map.2 hnd) (pick_nodup hn)).2 fun y => ?_
  rw [pick_mem, List.mem_map]
  constructor
  · rintro ⟨p, hp, rfl⟩
    obtain ⟨j, h1, h2, _⟩ := h.tol p hp
    exact ⟨j, h1, rfl, h2.symm⟩
  · rintro ⟨j, h1, _, rfl⟩
    obtain ⟨p, h2, h3⟩ := h.all j h1
    exact ⟨p, h2, h3⟩
/-- What is reached from a unit, and from a name that is not there. -/
theorem Wk.reached {to : List Nat} {L : UL} (h : Wk to to.length L) (hi : to.length ≤ 16) {r : Nat} (hr : r < to.length) {b : Nat → Bool} (hb : Inb to r b) {X : List ByteArray} (hX : X.Nodup) (v : VR L [nmW r, nbd] X) : X.Perm (pick b to.length) := by
  refine (List.perm_ext_iff_of_nodup hX (pick_nodup hi)).2 fun y => ?_
  rw [pick_mem]
  have hd : Dom L (nmW r) := (h.mem _).2 ⟨r, hr, rfl⟩
  constructor
  · intro hy
    obtain ⟨_, ⟨x, hx, dx, q⟩, _⟩ := v.new y hy
    have ex : x = nmW r := by
      rcases List.mem_cons.1 hx with e | e
      · exact e
      · obtain rfl := List.mem_singleton.1 e
        obtain ⟨j, h1, h2⟩ := (h.mem _).1 dx
        exact absurd h2 (nbd_ne' ⟨j, by omega⟩)
    subst ex
    obtain ⟨k, rfl⟩ := h.rch hi q r hr rfl
    exact ⟨_, itN_lt (fun i => Tt_lt (by omega) i) hr k, (hb.iff _).2 ⟨k, rfl⟩, rfl⟩
  · rintro ⟨j, h1, h2, rfl⟩
    obtain ⟨k, rfl⟩ := (hb.iff _).1 h2
    clear h1 h2
    induction k with
    | zero => exact v.at_ _ (List.mem_cons_self ..) hd
    | succ k ih =>
      have hl := itN_lt (fun i => Tt_lt (to := to) (by omega) i) hr k
      have h1 := Tt_lt (to := to) (by omega) (itN (Tt to) k r)
      show nmW (Tt to (itN (Tt to) k r)) ∈ X
      by_cases e : nmW (Tt to (itN (Tt to) k r)) = nmW (itN (Tt to) k r)
      · rw [e]; exact ih
      · obtain ⟨_, _, q⟩ := v.new _ ih
        exact q _ ((h.ld hi _ _).2 ⟨_, hl, rfl, rfl, e⟩) ((h.mem _).2 ⟨_, h1, rfl⟩)
end Go.Proofs.YtedgnigogkmgkaaGreatDoor
/- Rows of texts behind a slice. -/
namespace Go.Proofs.YtedgnigogkmgkaaGreatDoor
open Go.RowKit Go.Shelf Go.Lib
/-- A row of texts behind a slice. -/
def NS (w : World) (v : Value) (xs : List ByteArray) : Prop :=
  (v = .slice none 0 0 ∧ xs = []) ∨ ∃ g o cap, v = .slice (some ⟨g, o, none⟩) xs.length cap ∧ g < w.heap.size ∧ xs.length ≤ cap ∧ cap ≤ maxLen ∧
    (∀ j x, xs[j]? = some x → w.cell? ⟨g, o + j, none⟩ = some (.string x)) ∧ (∀ j, j < cap → (w.cell? ⟨g, o + j, none⟩).isSome = true ∧ w.frozen? ⟨g, o + j, none⟩ = false)
theorem NS.lt {w : World} {v : Value} {xs : List ByteArray} (h : NS w v xs) {k : Nat} (hk : nb v = some k) : k < w.heap.size := by
  rcases h with ⟨rfl, _⟩ | ⟨g, o, cap, rfl, hg, _⟩
  · cases hk
  · cases hk; exact hg
theorem NS.mv {w w' : World} {v : Value} {xs : List ByteArray} {E : Nat → Prop} (h : NS w v xs) (m : Mv E w w') (hE : ∀ k, nb v = some k → ¬ E k) : NS w' v xs := by
  rcases h with h | ⟨g, o, cap, rfl, hg, h1, h2, h3, h4⟩
  · exact .inl h
  · have hb := m.block g hg (hE g rfl)
    have hc : ∀ j, w'.cell? ⟨g, o + j, none⟩ = w.cell? ⟨g, o + j, none⟩ := fun j => World.cell?_of_block hb
    have hf : ∀ j, w'.frozen? ⟨g, o + j, none⟩ = w.frozen? ⟨g, o + j, none⟩ := fun j => by unfold World.frozen?; rw [hb]
    exact .inr ⟨g, o, cap, rfl, Nat.lt_of_lt_of_le hg m.size, h1, h2, fun j x hx => (hc j).trans (h3 j x hx), fun j hj => by rw [hc, hf]; exact h4 j hj⟩
/-- A row that is owned is one. -/
theorem NS.own {w : World} {v : Value} {base : Nat} {e : TypeId} {xs : List ByteArray} (h : w.ownsRow base e 1 v xs.length (xs.map Value.string)) : NS w v xs := by
  rcases h.2 with ⟨rfl, h0⟩ | ⟨g, cap, cur, rfl, _, hg, h1, h2, h3, h4⟩
  · exact .inl ⟨rfl, List.eq_nil_of_length_eq_zero h0⟩
  · refine .inr ⟨g, 0, cap, rfl, (Array.getElem?_eq_some_iff.1 hg).1, h1, h2, fun j x hx => ?_, fun j hj => ?_⟩
    · unfold World.cell?
      rw [hg]
      have hj : j < xs.length := (List.getElem?_eq_some_iff.1 hx).1
      have : (xs.map Value.string)[j]? = some (.string x) := by rw [List.getElem?_map, hx]; rfl
      rw [← h4, List.getElem?_take_of_lt (by simpa using hj), Array.getElem?_toList] at this
      simpa using this
    · unfold World.cell? World.frozen?
      rw [hg]
      have : j < cur.size := by rw [h3]; omega
      simp [this]
theorem infoS : ∃ i, Tryz.prog.info? 9 = some i ∧ i.zero = some (.string ⟨#[]⟩) ∧ i.size = 1 ∧ i.bytes = 16 := by
  have h : (Tryz.prog.info? 9).map (fun i => (i.zero, i.size, i.bytes)) = some (some (.string ⟨#[]⟩), 1, 16) := by kernel_rfl
  cases e : Tryz.prog.info? 9 with
  | none => rw [e] at h; cases h
  | some i => rw [e] at h; simp at h; exact ⟨i, rfl, h⟩
theorem NS.append {w : World} {v : Value} {xs : List ByteArray} (h : NS w v xs) {a : Addr} {s : ByteArray} {c : Nat} (ha : w.cell? a = some (.string s)) (hl : xs.length ≤ 1000000) (ty : TypeId) :
    ∃ v' w', (Builtin.append_ #[28, 28] ty #[v, .slice (some a) 1 c]).run Tryz.prog w = .ok v' w' ∧ NS w' v' (xs ++ [s]) ∧ Mv (fun k => nb v = some k) w w' ∧ (nb v' = nb v ∨ ∃ k, nb v' = some k ∧ w.heap.size ≤ k) := by
  have hnews : ∀ j u, [Value.string s][j]? = some u → w.cell? (a.add j) = some u := by
    intro j u hj
    match j, hj with
    | 0, hj =>
      simp at hj; subst hj
      rw [← ha]; congr 1
  have he : (xs ++ [s]).map Value.string = xs.map Value.string ++ [Value.string s] := by simp
  have hL : (xs ++ [s]).length = xs.length + 1 := by simp
  obtain ⟨i0, hi, hz0, hz1, hz2⟩ := infoS
  rcases h with ⟨rfl, rfl⟩ | ⟨g, o, cap, rfl, hg, h1, h2, h3, h4⟩
  · obtain ⟨v', w', hrun, ho, hgr, _, hat⟩ := run_append_own_at (P := Tryz.prog) w w.heap.size 28 ty 9 _ (.string ⟨#[]⟩) 1 16 Tryz.underlying28 hi hz0 hz1 hz2 rfl (by decide) (.slice none 0 0) 0 [] (World.ownsRow_nil w _ _ _) a 1 c [.string s] rfl hnews (by simp [Value.oneCell']) (by unfold maxLen; omega) (by omega) (Nat.le_refl _)
    refine ⟨v', w', hrun, NS.own (base := w.heap.size) (e := 9) (by rw [he]; exact ho), (Mv.refl _ _).grown hgr (fun k e => by cases e), ?_⟩
    rcases ho.2 with ⟨rfl, h0⟩ | ⟨g, cap, cur, rfl, _, hg, _⟩
    · simp at h0
    · rcases hat with hat | hat
      · cases hat
      · exact .inr ⟨w.heap.size, by simpa [Value.ownBlock, nb] using hat, Nat.le_refl _⟩
  · by_cases hr : xs.length + 1 ≤ cap
    · have hrun := run_append_room_cells (P := Tryz.prog) w 28 ty 9 _ Tryz.underlying28 hi g o xs.length cap a 1 c [.string s] (by rw [hz1]; rfl) hnews (by simp [Value.oneCell']) hr (fun j hj => by rw [hz1]; obtain rfl : j = 0 := (by simpa using hj); simpa using (h4 xs.length (by omega)).1) (fun j hj => by rw [hz1]; obtain rfl : j = 0 := (by simpa using hj); simpa using (h4 xs.length (by omega)).2)
      rw [hz1] at hrun
      · refine ⟨_, _, hrun, .inr ⟨g, o, cap, by rw [hL], ?_, by rw [hL]; exact hr, h2, fun j x hx => ?_, fun j hj => ?_⟩, ?_, .inl rfl⟩
        · show g < (w.setCell _ _).heap.size
          simpa using hg
        · show (w.setCell ⟨g, o + xs.length * 1, none⟩ (.string s)).cell? _ = _
          rw [Nat.mul_one]
          rcases Nat.lt_or_ge j xs.length with hj | hj
          · rw [World.cell?_setCell_other _ _ _ _ (by simp; try omega)]
            rw [List.getElem?_append_left hj] at hx
            exact h3 j x hx
          · rw [List.getElem?_append_right hj] at hx
            obtain hj0 : j - xs.length = 0 := by
              rcases Nat.eq_zero_or_pos (j - xs.length) with h | h
              · exact h
              · rw [List.getElem?_eq_none (by simp; omega)] at hx; cases hx
            rw [hj0] at hx
            simp at hx; subst hx
            have : j = xs.length := by omega
            subst this
            exact World.cell?_setCell_same' _ _ _ (h4 _ (by omega)).1
        · refine ⟨?_, by show (w.setCell _ _).frozen? _ = false; rw [World.frozen?_setCell]; exact (h4 j hj).2⟩
          show ((w.setCell ⟨g, o + xs.length * 1, none⟩ (.string s)).cell? _).isSome = true
          rw [Nat.mul_one]
          by_cases hj2 : j = xs.length
          · subst hj2
            rw [World.cell?_setCell_same' _ _ _ (h4 _ (by omega)).1]; rfl
          · rw [World.cell?_setCell_other _ _ _ _ (by simp; try omega)]
            exact (h4 j hj).1
        · exact (Mv.refl (fun k => nb (Value.slice (some ⟨g, o, none⟩) xs.length cap) = some k) w).setc (p := ⟨g, o + xs.length * 1, none⟩) (.inl rfl) _
    · have hold : ∀ j u, (xs.map Value.string)[j]? = some u → w.cell? ((⟨g, o, none⟩ : Addr).add j) = some u := by
        intro j u hj
        rw [List.getElem?_map] at hj
        cases hx : xs[j]? with
        | none => rw [hx] at hj; cases hj
        | some x =>
          rw [hx] at hj; cases hj
          rw [Addr.add_lit]
          exact h3 j x hx
      obtain ⟨v', w', hrun, ho, hgr⟩ := run_append_arg_grows (P := Tryz.prog) w 28 ty 9 _ (.string ⟨#[]⟩) 1 16 Tryz.underlying28 hi hz0 hz1 hz2 rfl (by decide) ⟨g, o, none⟩ xs.length cap (xs.map Value.string) (by simp) hold a 1 c [.string s] rfl hnews (by omega) (by unfold maxLen; omega) (by omega)
      rw [← he, ← hL] at ho
      · refine ⟨v', w', hrun, NS.own ho, (Mv.refl _ _).grown hgr (fun k e => by cases e), .inr ?_⟩
        have hle := hgr.size
        rcases ho.2 with ⟨rfl, h0⟩ | ⟨g2, cap2, cur, rfl, hb2, hg2, _⟩
        · simp at h0
        · exact ⟨g2, rfl, hb2⟩
theorem NS.shape {w : World} {v : Value} {xs : List ByteArray} (h : NS w v xs) : ∃ p c, v = .slice p xs.length c := by
  rcases h with ⟨rfl, rfl⟩ | ⟨g, o, cap, rfl, _⟩
  · exact ⟨_, _, rfl⟩
  · exact ⟨_, _, rfl⟩
end Go.Proofs.YtedgnigogkmgkaaGreatDoor
