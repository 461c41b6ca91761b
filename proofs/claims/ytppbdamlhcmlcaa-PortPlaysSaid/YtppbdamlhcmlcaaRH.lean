/- The reference's Accept of one that waits. -/
import Derived.Test.YtppbdamlhcmlcaaRF
namespace Go.Proofs.Ytppbdamlhcmlcaa
open Go.RowKit Go.Shelf Go.Lib
set_option maxRecDepth 100000 in
set_option maxHeartbeats 1000000 in
theorem raccept_ok (R : Rt) (s : ByteArray) (i : Nat) (x : RG) (ia : Int) (ta : ByteArray) (r : List Pr) (w : World) (h : Rs w R) (hl : R.l.length ≤ 1000) (ht : thereR R.l s = true) (hi : atP R.l s = i) (hx : R.l[i]? = some x) (hp : x.ps = (ia, ta) :: r) :
    Calls Try.prog 16 #[.pointer (some ⟨R.b, 0, none⟩), .string s] w fun e w' => e = .returned (.tuple #[.agg #[.int .i64 ia, .string ta], .int .i64 0]) ∧ ∃ v', RGoes R w { R with l := R.l.set i ⟨x.nm, r, v'⟩ } w' := by
  obtain ⟨W0, hW0⟩ : ∃ W0, w.alloc (.cells #[.int .i64 0, .string ⟨#[]⟩] 41) = W0 := ⟨_, rfl⟩
  have b0 : Below w.heap.size w W0 := by rw [← hW0]; exact (Below.refl _ _).alloc (Nat.le_refl _) _
  have hat := hidP (rat_any R s W0 (h.below b0) hl)
  rw [ht, hi] at hat
  have r0 : W0.cell? ⟨w.heap.size, 0, none⟩ = some (.int .i64 0) := by rw [← hW0]; exact cell_at rfl rfl
  have r1 : W0.cell? ⟨w.heap.size, 1, none⟩ = some (.string ⟨#[]⟩) := by rw [← hW0]; exact cell_at rfl rfl
  have z0 : W0.frozen? ⟨w.heap.size, 0, none⟩ = false := by rw [← hW0]; exact froz_new rfl
  have z1 : W0.frozen? ⟨w.heap.size, 1, none⟩ = false := by rw [← hW0]; exact froz_new rfl
  have hs0 : W0.heap.size = w.heap.size + 1 := by rw [← hW0]; simp
  have hid := hidP (And.intro r0 (And.intro r1 (And.intro z0 (And.intro z1 (And.intro hs0 b0)))))
  obtain ⟨n, hnn⟩ : ∃ n, R.l.length = n := ⟨_, rfl⟩
  have hil : (i : Int) < (n : Int) := by have := (List.getElem?_eq_some_iff.1 hx).1; omega
  have hi0 : (0 : Int) ≤ (i : Int) := by omega
  have hH := hidP (And.intro h (And.intro hx (And.intro hnn hp)))
  obtain ⟨N, hN⟩ : ∃ N, w.heap.size = N := ⟨_, rfl⟩
  have hNH := hidP hN
  clear h ht b0 r0 r1 z0 z1 hs0 hi hx hnn hp
  go_enter Try.func16, Try.ntmps16
  go_wp2_with (rw [hW0])
  refine hat.out.mono ?_
  rintro e w1 ⟨rfl, hb1⟩
  obtain ⟨r0, r1, z0, z1, hs0, b0⟩ := hid.out
  obtain ⟨hR, hx, hnn, hp⟩ := hH.out
  have hb01 : Below w.heap.size w w1 := b0.trans (hb1.mono (by omega))
  have h1 := hR.below hb01
  obtain ⟨g, cap, e1, _, e3⟩ := h1.at hx
  have c0 := h1.c0
  rw [e1, hnn] at c0
  have hxr := h1.ps x (List.mem_of_getElem? hx)
  have hxo := hR.ps x (List.mem_of_getElem? hx)
  have hqx := hxr.1
  rw [hp] at hqx
  obtain ⟨g2, o2, cp, hv, y0, y1, hcap, hcm, hg2, hcut⟩ := hqx.cut
  obtain ⟨nr, hnr⟩ : ∃ nr, r.length = nr := ⟨_, rfl⟩
  rw [hnr] at hv hcap hcut
  have hg2w : g2 < w.heap.size := (hxo.2 g2 (by rw [hv]; rfl)).1
  rw [hv] at e3
  have hn2 : ¬ (nr : Int) + 1 = 0 := by omega
  have hn0 : (0 : Int) < (nr : Int) + 1 := by omega
  have hn1 : (1 : Int) ≤ (nr : Int) + 1 := by omega
  have hcmI : (cp : Int) ≤ 9223372036854775807 := by unfold maxLen at hcm; omega
  obtain ⟨V, hV⟩ : ∃ V, w1.alloc (.cells #[.int .i64 ia, .string ta] 41) = V := ⟨_, rfl⟩
  have bV : Below w1.heap.size w1 V := by rw [← hV]; exact (Below.refl _ _).alloc (Nat.le_refl _) _
  have hgw : g < w.heap.size := hR.lt (.inr (by rw [e1]; rfl))
  have mV : Mv (fun _ => False) w1 V.drew := (Mv.below bV).trans' (Mv.drew _ _)
  have s0 := mV.cell (a := ⟨R.b, 0, none⟩) (fun h => h) c0
  have s3 := mV.cell (a := ⟨g, i * 2 + 1, none⟩) (fun h => h) e3
  have s4 : V.drew.frozen? ⟨g, i * 2 + 1, none⟩ = false := (mV.froz (a := ⟨g, i * 2 + 1, none⟩) (fun h => h) (cell_lt e3)).trans (own_froz h1.row (by rw [e1]; rfl))
  have v0 : V.cell? ⟨w1.heap.size, 0, none⟩ = some (.int .i64 ia) := by rw [← hV]; exact cell_at rfl rfl
  have v1 : V.cell? ⟨w1.heap.size, 1, none⟩ = some (.string ta) := by rw [← hV]; exact cell_at rfl rfl
  have hs1 := hb1.size
  have m01 : Mv (fun _ => False) W0 V.drew := (Mv.below hb1).trans' mV
  rw [hN] at r0 r1 z0 z1 hs0
  have r0' := m01.cell (a := ⟨N, 0, none⟩) (fun h => h) r0
  have r1' := m01.cell (a := ⟨N, 1, none⟩) (fun h => h) r1
  have z0' := (m01.froz (a := ⟨N, 0, none⟩) (fun h => h) (by show N < _; omega)).trans z0
  have z1' := (m01.froz (a := ⟨N, 1, none⟩) (fun h => h) (by show N < _; omega)).trans z1
  have hfin : Hid (∀ v', QS V.drew v' r → (∀ k, nb v' = some k → k = g2) → RGoes R w { R with l := R.l.set i ⟨x.nm, r, v'⟩ } (((V.drew.setCell ⟨g, i * 2 + 1, none⟩ v').setCell ⟨N, 0, none⟩ (.int .i64 ia)).setCell ⟨N, 1, none⟩ (.string ta))) := fun v' hq hk => by
    have t1 := h1.turn1 (w' := V.drew) (nx := R.nx) hx e1 (mV.mono (fun _ _ h => h.elim)) (by rw [e1, hnn]; exact s0) (mV.cell (a := ⟨R.b, 1, none⟩) (fun h => h) h1.c1) (mV.cell (a := ⟨R.b, 2, none⟩) (fun h => h) h1.c2) (fun j => (mV.froz (a := ⟨R.b, j, none⟩) (fun h => h) (by have := cell_lt c0; exact this)).trans (h1.f0 j)) hq (fun k q => .inl (by rw [hk k q, hv]; rfl))
    have t2 := (RGoes.below hR hb01).trans t1
    refine t2.new (((Mv.refl (fun k => k = N) _).setc (p := ⟨N, 0, none⟩) (.inl rfl) _).setc (p := ⟨N, 1, none⟩) (.inl rfl) _) (by omega) (fun q => ?_) (fun y hy q => ?_) (fun q => ?_)
    · have : hasR R N := q
      have := hR.lt this
      omega
    · rcases List.mem_or_eq_of_mem_set hy with t | t
      · have := ((hR.ps y t).2 N q).1
        omega
      · subst t
        have := hk N q
        omega
    · have := (hR.dd.2 N q).1
      omega
  have hcutV : QS V.drew (.slice (if cp = 1 then some ⟨g2, o2, none⟩ else some ⟨g2, o2 + 2, none⟩) nr (cp - 1)) r := hcut.mv mV (fun _ _ h => h)
  have hgN : g ≠ N := by omega
  have hNw1 : N ≠ w1.heap.size := by omega
  have hgw1 : g ≠ w1.heap.size := by have := (h1.row.lt g (by rw [e1]; rfl)).2; omega
  have hallH : Hid (V.drew.cell? ⟨R.b, 0, none⟩ = some (.slice (some ⟨g, 0, none⟩) n cap) ∧ V.drew.cell? ⟨g, i * 2 + 1, none⟩ = some (.slice (some ⟨g2, o2, none⟩) (nr + 1) cp)) := ⟨s0, s3⟩
  have hcutH := hidP (And.intro hcutV hfin)
  clear hfin hcutV hcut hat hW0 hid hH hR hx hnn hp hb01 h1 e1 hxr hxo hqx hv hg2w hg2 hgw bV hs1 m01 r0 r1 z0 z1 hs0 b0 hb1 hNH hnr
  by_cases hc1 : cp = 1
  · subst hc1
    rw [if_pos rfl, Nat.sub_self] at hcutH
    clear hcap
    obtain ⟨w5, hw5⟩ : ∃ w5, V.drew.setCell ⟨g, i * 2 + 1, none⟩ (.slice (some ⟨g2, o2, none⟩) nr 0) = w5 := ⟨_, rfl⟩
    have fin := hidP (hcutH.out.2 (.slice (some ⟨g2, o2, none⟩) nr 0) hcutH.out.1 (fun k q => by simp [nb] at q; exact q.symm))
    rw [hw5] at fin
    have g0 : w5.cell? ⟨N, 0, none⟩ = some (.int .i64 0) := by rw [← hw5]; exact (World.cell?_setCell_other _ _ _ _ (by simp; try omega)).trans r0'
    have g1 : w5.cell? ⟨N, 1, none⟩ = some (.string ⟨#[]⟩) := by rw [← hw5]; exact (World.cell?_setCell_other _ _ _ _ (by simp; try omega)).trans r1'
    have g2' : (w5.setCell ⟨N, 0, none⟩ (.int .i64 ia)).cell? ⟨N, 0, none⟩ = some (.int .i64 ia) := World.cell?_setCell_same' _ _ _ (by rw [g0]; rfl)
    have g3 : ((w5.setCell ⟨N, 0, none⟩ (.int .i64 ia)).setCell ⟨N, 1, none⟩ (.string ta)).cell? ⟨N, 1, none⟩ = some (.string ta) := World.cell?_setCell_same' _ _ _ (by rw [World.cell?_setCell_other _ _ _ _ (by simp), g1]; rfl)
    have y0' : w5.frozen? ⟨N, 0, none⟩ = false := by rw [← hw5, World.frozen?_setCell]; exact z0'
    have y1' : w5.frozen? ⟨N, 1, none⟩ = false := by rw [← hw5, World.frozen?_setCell]; exact z1'
    have x0 : w5.cell? ⟨w1.heap.size, 0, none⟩ = some (.int .i64 ia) := by rw [← hw5]; exact (World.cell?_setCell_other _ _ _ _ (by simp; try omega)).trans v0
    have x1 : w5.cell? ⟨w1.heap.size, 1, none⟩ = some (.string ta) := by rw [← hw5]; exact (World.cell?_setCell_other _ _ _ _ (by simp; try omega)).trans v1
    clear hcutH r0' r1' z0' z1' mV hN
    go_wp2_with (rw [hV])
    refine Zs.region (S := fun y => y.cell? ⟨R.b, 0, none⟩ = some (.slice (some ⟨g, 0, none⟩) n cap) ∧ y.cell? ⟨g, i * 2 + 1, none⟩ = some (.slice (some ⟨g2, o2, none⟩) (nr + 1) 1)) 16 (by kernel_rfl) ?_
    have hHeld := hallH.out
    refine Zs.take (i := 0) (oi := ⟨some 40, _, _, _, _, _⟩) (v := ?v0) rfl (by kernel_rfl) (by kernel_rfl) (by kernel_rfl) (by decide) (by kernel_rfl) (by kernel_rfl) (fun _ _ _ h => h) (Or.inl ⟨by rfl, ?hy0⟩) (by assumption) ?_
    case hy0 => (intro w hSw; (try dsimp only at hSw); go_simp; try with_reducible rfl)
    simp only [Act.put, List.setIfInBounds_toArray, List.set_cons_zero, List.set_cons_succ]
    refine Zs.take (i := 1) (oi := ⟨some 41, _, _, _, _, _⟩) (v := ?v1) rfl (by kernel_rfl) (by kernel_rfl) (by kernel_rfl) (by decide) (by kernel_rfl) (by kernel_rfl) (fun _ _ _ h => h) (Or.inl ⟨by rfl, ?hy1⟩) (by assumption) ?_
    case hy1 => (intro w hSw; (try dsimp only at hSw); go_simp; try with_reducible rfl)
    simp only [Act.put, List.setIfInBounds_toArray, List.set_cons_zero, List.set_cons_succ]
    refine Zs.take (i := 2) (oi := ⟨some 42, _, _, _, _, _⟩) (v := ?v2) rfl (by kernel_rfl) (by kernel_rfl) (by kernel_rfl) (by decide) (by kernel_rfl) (by kernel_rfl) (fun _ _ _ h => h) (Or.inl ⟨by rfl, ?hy2⟩) (by assumption) ?_
    case hy2 => (intro w hSw; (try dsimp only at hSw); go_simp; try with_reducible rfl)
    simp only [Act.put, List.setIfInBounds_toArray, List.set_cons_zero, List.set_cons_succ]
    refine Zs.take (i := 3) (oi := ⟨some 43, _, _, _, _, _⟩) (v := ?v3) rfl (by kernel_rfl) (by kernel_rfl) (by kernel_rfl) (by decide) (by kernel_rfl) (by kernel_rfl) (fun _ _ _ h => h) (Or.inl ⟨by rfl, ?hy3⟩) (by assumption) ?_
    case hy3 => (intro w hSw; (try dsimp only at hSw); go_simp; try with_reducible rfl)
    simp only [Act.put, List.setIfInBounds_toArray, List.set_cons_zero, List.set_cons_succ]
    refine Zs.take (i := 4) (oi := ⟨some 44, _, _, _, _, _⟩) (v := ?v4) rfl (by kernel_rfl) (by kernel_rfl) (by kernel_rfl) (by decide) (by kernel_rfl) (by kernel_rfl) (fun _ _ _ h => h) (Or.inl ⟨by rfl, ?hy4⟩) (by assumption) ?_
    case hy4 => (intro w hSw; (try dsimp only at hSw); go_simp; try with_reducible rfl)
    simp only [Act.put, List.setIfInBounds_toArray, List.set_cons_zero, List.set_cons_succ]
    refine Zs.take (i := 5) (oi := ⟨some 45, _, _, _, _, _⟩) (v := ?v5) rfl (by kernel_rfl) (by kernel_rfl) (by kernel_rfl) (by decide) (by kernel_rfl) (by kernel_rfl) (fun _ _ _ h => h) (Or.inl ⟨by rfl, ?hy5⟩) (by assumption) ?_
    case hy5 => (intro w hSw; (try dsimp only at hSw); go_simp; try with_reducible rfl)
    simp only [Act.put, List.setIfInBounds_toArray, List.set_cons_zero, List.set_cons_succ]
    refine Zs.take (i := 6) (oi := ⟨some 46, _, _, _, _, _⟩) (v := ?v6) rfl (by kernel_rfl) (by kernel_rfl) (by kernel_rfl) (by decide) (by kernel_rfl) (by kernel_rfl) (fun _ _ _ h => h) (Or.inl ⟨by rfl, ?hy6⟩) (by assumption) ?_
    case hy6 => (intro w hSw; (try dsimp only at hSw); go_simp; try with_reducible rfl)
    simp only [Act.put, List.setIfInBounds_toArray, List.set_cons_zero, List.set_cons_succ]
    refine Zs.take (i := 7) (oi := ⟨some 47, _, _, _, _, _⟩) (v := ?v7) rfl (by kernel_rfl) (by kernel_rfl) (by kernel_rfl) (by decide) (by kernel_rfl) (by kernel_rfl) (fun _ _ _ h => h) (Or.inl ⟨by rfl, ?hy7⟩) (by assumption) ?_
    case hy7 => (intro w hSw; (try dsimp only at hSw); go_simp; try with_reducible rfl)
    simp only [Act.put, List.setIfInBounds_toArray, List.set_cons_zero, List.set_cons_succ]
    refine Zs.take (i := 8) (oi := ⟨some 48, _, _, _, _, _⟩) (v := ?v8) rfl (by kernel_rfl) (by kernel_rfl) (by kernel_rfl) (by decide) (by kernel_rfl) (by kernel_rfl) (fun _ _ _ h => h) (Or.inl ⟨by rfl, ?hy8⟩) (by assumption) ?_
    case hy8 => (intro w hSw; (try dsimp only at hSw); go_simp; try with_reducible rfl)
    simp only [Act.put, List.setIfInBounds_toArray, List.set_cons_zero, List.set_cons_succ]
    refine Zs.take (i := 9) (oi := ⟨some 49, _, _, _, _, _⟩) (v := ?v9) rfl (by kernel_rfl) (by kernel_rfl) (by kernel_rfl) (by decide) (by kernel_rfl) (by kernel_rfl) (fun _ _ _ h => h) (Or.inl ⟨by rfl, ?hy9⟩) (by assumption) ?_
    case hy9 => (intro w hSw; (try dsimp only at hSw); go_simp; try with_reducible rfl)
    simp only [Act.put, List.setIfInBounds_toArray, List.set_cons_zero, List.set_cons_succ]
    refine Zs.take (i := 10) (oi := ⟨some 50, _, _, _, _, _⟩) (v := ?v10) rfl (by kernel_rfl) (by kernel_rfl) (by kernel_rfl) (by decide) (by kernel_rfl) (by kernel_rfl) (fun _ _ _ h => h) (Or.inl ⟨by rfl, ?hy10⟩) (by assumption) ?_
    case hy10 => (intro w hSw; (try dsimp only at hSw); go_simp; try with_reducible rfl)
    simp only [Act.put, List.setIfInBounds_toArray, List.set_cons_zero, List.set_cons_succ]
    refine Zs.take (i := 11) (oi := ⟨some 51, _, _, _, _, _⟩) (v := ?v11) rfl (by kernel_rfl) (by kernel_rfl) (by kernel_rfl) (by decide) (by kernel_rfl) (by kernel_rfl) (fun _ _ _ h => h) (Or.inl ⟨by rfl, ?hy11⟩) (by assumption) ?_
    case hy11 => (intro w hSw; (try dsimp only at hSw); go_simp; try with_reducible rfl)
    simp only [Act.put, List.setIfInBounds_toArray, List.set_cons_zero, List.set_cons_succ]
    refine Zs.take (i := 12) (oi := ⟨some 52, _, _, _, _, _⟩) (v := ?v12) rfl (by kernel_rfl) (by kernel_rfl) (by kernel_rfl) (by decide) (by kernel_rfl) (by kernel_rfl) (fun _ _ _ h => h) (Or.inl ⟨by rfl, ?hy12⟩) (by assumption) ?_
    case hy12 => (intro w hSw; (try dsimp only at hSw); go_simp; try with_reducible rfl)
    simp only [Act.put, List.setIfInBounds_toArray, List.set_cons_zero, List.set_cons_succ]
    refine Zs.take (i := 13) (oi := ⟨some 53, _, _, _, _, _⟩) (v := ?v13) rfl (by kernel_rfl) (by kernel_rfl) (by kernel_rfl) (by decide) (by kernel_rfl) (by kernel_rfl) (fun _ _ _ h => h) (Or.inl ⟨by rfl, ?hy13⟩) (by assumption) ?_
    case hy13 => (intro w hSw; (try dsimp only at hSw); go_simp; try with_reducible rfl)
    simp only [Act.put, List.setIfInBounds_toArray, List.set_cons_zero, List.set_cons_succ]
    refine Zs.pure (i := 14) (oi := ⟨some 54, _, _, _, _, _⟩) (v := ?v14) rfl (by kernel_rfl) (by kernel_rfl) (by kernel_rfl) (by decide) (fun _ _ _ h => h) (Or.inl ⟨by rfl, ?hy14⟩) (by assumption) ?_
    case hy14 => (intro w hSw; (try dsimp only at hSw); go_simp; try with_reducible rfl)
    simp only [Act.put, List.setIfInBounds_toArray, List.set_cons_zero, List.set_cons_succ]
    refine Zs.take (i := 15) (oi := ⟨some 55, _, _, _, _, _⟩) (v := ?v15) rfl (by kernel_rfl) (by kernel_rfl) (by kernel_rfl) (by decide) (by kernel_rfl) (by kernel_rfl) (fun _ _ _ h => h) (Or.inl ⟨by rfl, ?hy15⟩) (by assumption) ?_
    case hy15 => (intro w hSw; (try dsimp only at hSw); go_simp; try with_reducible rfl)
    simp only [Act.put, List.setIfInBounds_toArray, List.set_cons_zero, List.set_cons_succ]
    refine Zs.one (i := 16) (oi := ⟨none, _, _, _, _, _⟩) (by kernel_rfl) rfl (fun K hK => ?_)
    go_simp
    refine hK.out _ _ (fun q => absurd q (by decide)) ?_
    clear hK K
    refine Zs.done (by kernel_rfl) ?_ _
    go_wp2_with (rw [hw5])
    exact bodyPost_ret (v := .tuple #[.agg #[.int .i64 ia, .string ta], .int .i64 0]) (by simp [results, Try.results16, go_sem, g2', g3]) rfl ⟨rfl, _, fin.out⟩
  · rw [if_neg hc1] at hcutH
    obtain ⟨w5, hw5⟩ : ∃ w5, V.drew.setCell ⟨g, i * 2 + 1, none⟩ (.slice (some ⟨g2, o2 + 2, none⟩) nr (cp - 1)) = w5 := ⟨_, rfl⟩
    have fin := hidP (hcutH.out.2 (.slice (some ⟨g2, o2 + 2, none⟩) nr (cp - 1)) hcutH.out.1 (fun k q => by simp [nb] at q; exact q.symm))
    rw [hw5] at fin
    have g0 : w5.cell? ⟨N, 0, none⟩ = some (.int .i64 0) := by rw [← hw5]; exact (World.cell?_setCell_other _ _ _ _ (by simp; try omega)).trans r0'
    have g1 : w5.cell? ⟨N, 1, none⟩ = some (.string ⟨#[]⟩) := by rw [← hw5]; exact (World.cell?_setCell_other _ _ _ _ (by simp; try omega)).trans r1'
    have g2' : (w5.setCell ⟨N, 0, none⟩ (.int .i64 ia)).cell? ⟨N, 0, none⟩ = some (.int .i64 ia) := World.cell?_setCell_same' _ _ _ (by rw [g0]; rfl)
    have g3 : ((w5.setCell ⟨N, 0, none⟩ (.int .i64 ia)).setCell ⟨N, 1, none⟩ (.string ta)).cell? ⟨N, 1, none⟩ = some (.string ta) := World.cell?_setCell_same' _ _ _ (by rw [World.cell?_setCell_other _ _ _ _ (by simp), g1]; rfl)
    have y0' : w5.frozen? ⟨N, 0, none⟩ = false := by rw [← hw5, World.frozen?_setCell]; exact z0'
    have y1' : w5.frozen? ⟨N, 1, none⟩ = false := by rw [← hw5, World.frozen?_setCell]; exact z1'
    have x0 : w5.cell? ⟨w1.heap.size, 0, none⟩ = some (.int .i64 ia) := by rw [← hw5]; exact (World.cell?_setCell_other _ _ _ _ (by simp; try omega)).trans v0
    have x1 : w5.cell? ⟨w1.heap.size, 1, none⟩ = some (.string ta) := by rw [← hw5]; exact (World.cell?_setCell_other _ _ _ _ (by simp; try omega)).trans v1
    clear hcutH r0' r1' z0' z1' mV hN
    go_wp2_with (rw [hV])
    refine Zs.region (S := fun y => y.cell? ⟨R.b, 0, none⟩ = some (.slice (some ⟨g, 0, none⟩) n cap) ∧ y.cell? ⟨g, i * 2 + 1, none⟩ = some (.slice (some ⟨g2, o2, none⟩) (nr + 1) cp)) 16 (by kernel_rfl) ?_
    have hHeld := hallH.out
    refine Zs.take (i := 0) (oi := ⟨some 40, _, _, _, _, _⟩) (v := ?v0) rfl (by kernel_rfl) (by kernel_rfl) (by kernel_rfl) (by decide) (by kernel_rfl) (by kernel_rfl) (fun _ _ _ h => h) (Or.inl ⟨by rfl, ?hy0⟩) (by assumption) ?_
    case hy0 => (intro w hSw; (try dsimp only at hSw); go_simp; try with_reducible rfl)
    simp only [Act.put, List.setIfInBounds_toArray, List.set_cons_zero, List.set_cons_succ]
    refine Zs.take (i := 1) (oi := ⟨some 41, _, _, _, _, _⟩) (v := ?v1) rfl (by kernel_rfl) (by kernel_rfl) (by kernel_rfl) (by decide) (by kernel_rfl) (by kernel_rfl) (fun _ _ _ h => h) (Or.inl ⟨by rfl, ?hy1⟩) (by assumption) ?_
    case hy1 => (intro w hSw; (try dsimp only at hSw); go_simp; try with_reducible rfl)
    simp only [Act.put, List.setIfInBounds_toArray, List.set_cons_zero, List.set_cons_succ]
    refine Zs.take (i := 2) (oi := ⟨some 42, _, _, _, _, _⟩) (v := ?v2) rfl (by kernel_rfl) (by kernel_rfl) (by kernel_rfl) (by decide) (by kernel_rfl) (by kernel_rfl) (fun _ _ _ h => h) (Or.inl ⟨by rfl, ?hy2⟩) (by assumption) ?_
    case hy2 => (intro w hSw; (try dsimp only at hSw); go_simp; try with_reducible rfl)
    simp only [Act.put, List.setIfInBounds_toArray, List.set_cons_zero, List.set_cons_succ]
    refine Zs.take (i := 3) (oi := ⟨some 43, _, _, _, _, _⟩) (v := ?v3) rfl (by kernel_rfl) (by kernel_rfl) (by kernel_rfl) (by decide) (by kernel_rfl) (by kernel_rfl) (fun _ _ _ h => h) (Or.inl ⟨by rfl, ?hy3⟩) (by assumption) ?_
    case hy3 => (intro w hSw; (try dsimp only at hSw); go_simp; try with_reducible rfl)
    simp only [Act.put, List.setIfInBounds_toArray, List.set_cons_zero, List.set_cons_succ]
    refine Zs.take (i := 4) (oi := ⟨some 44, _, _, _, _, _⟩) (v := ?v4) rfl (by kernel_rfl) (by kernel_rfl) (by kernel_rfl) (by decide) (by kernel_rfl) (by kernel_rfl) (fun _ _ _ h => h) (Or.inl ⟨by rfl, ?hy4⟩) (by assumption) ?_
    case hy4 => (intro w hSw; (try dsimp only at hSw); go_simp; try with_reducible rfl)
    simp only [Act.put, List.setIfInBounds_toArray, List.set_cons_zero, List.set_cons_succ]
    refine Zs.take (i := 5) (oi := ⟨some 45, _, _, _, _, _⟩) (v := ?v5) rfl (by kernel_rfl) (by kernel_rfl) (by kernel_rfl) (by decide) (by kernel_rfl) (by kernel_rfl) (fun _ _ _ h => h) (Or.inl ⟨by rfl, ?hy5⟩) (by assumption) ?_
    case hy5 => (intro w hSw; (try dsimp only at hSw); go_simp; try with_reducible rfl)
    simp only [Act.put, List.setIfInBounds_toArray, List.set_cons_zero, List.set_cons_succ]
    refine Zs.take (i := 6) (oi := ⟨some 46, _, _, _, _, _⟩) (v := ?v6) rfl (by kernel_rfl) (by kernel_rfl) (by kernel_rfl) (by decide) (by kernel_rfl) (by kernel_rfl) (fun _ _ _ h => h) (Or.inl ⟨by rfl, ?hy6⟩) (by assumption) ?_
    case hy6 => (intro w hSw; (try dsimp only at hSw); go_simp; try with_reducible rfl)
    simp only [Act.put, List.setIfInBounds_toArray, List.set_cons_zero, List.set_cons_succ]
    refine Zs.take (i := 7) (oi := ⟨some 47, _, _, _, _, _⟩) (v := ?v7) rfl (by kernel_rfl) (by kernel_rfl) (by kernel_rfl) (by decide) (by kernel_rfl) (by kernel_rfl) (fun _ _ _ h => h) (Or.inl ⟨by rfl, ?hy7⟩) (by assumption) ?_
    case hy7 => (intro w hSw; (try dsimp only at hSw); go_simp; try with_reducible rfl)
    simp only [Act.put, List.setIfInBounds_toArray, List.set_cons_zero, List.set_cons_succ]
    refine Zs.take (i := 8) (oi := ⟨some 48, _, _, _, _, _⟩) (v := ?v8) rfl (by kernel_rfl) (by kernel_rfl) (by kernel_rfl) (by decide) (by kernel_rfl) (by kernel_rfl) (fun _ _ _ h => h) (Or.inl ⟨by rfl, ?hy8⟩) (by assumption) ?_
    case hy8 => (intro w hSw; (try dsimp only at hSw); go_simp; try with_reducible rfl)
    simp only [Act.put, List.setIfInBounds_toArray, List.set_cons_zero, List.set_cons_succ]
    refine Zs.take (i := 9) (oi := ⟨some 49, _, _, _, _, _⟩) (v := ?v9) rfl (by kernel_rfl) (by kernel_rfl) (by kernel_rfl) (by decide) (by kernel_rfl) (by kernel_rfl) (fun _ _ _ h => h) (Or.inl ⟨by rfl, ?hy9⟩) (by assumption) ?_
    case hy9 => (intro w hSw; (try dsimp only at hSw); go_simp; try with_reducible rfl)
    simp only [Act.put, List.setIfInBounds_toArray, List.set_cons_zero, List.set_cons_succ]
    refine Zs.take (i := 10) (oi := ⟨some 50, _, _, _, _, _⟩) (v := ?v10) rfl (by kernel_rfl) (by kernel_rfl) (by kernel_rfl) (by decide) (by kernel_rfl) (by kernel_rfl) (fun _ _ _ h => h) (Or.inl ⟨by rfl, ?hy10⟩) (by assumption) ?_
    case hy10 => (intro w hSw; (try dsimp only at hSw); go_simp; try with_reducible rfl)
    simp only [Act.put, List.setIfInBounds_toArray, List.set_cons_zero, List.set_cons_succ]
    refine Zs.take (i := 11) (oi := ⟨some 51, _, _, _, _, _⟩) (v := ?v11) rfl (by kernel_rfl) (by kernel_rfl) (by kernel_rfl) (by decide) (by kernel_rfl) (by kernel_rfl) (fun _ _ _ h => h) (Or.inl ⟨by rfl, ?hy11⟩) (by assumption) ?_
    case hy11 => (intro w hSw; (try dsimp only at hSw); go_simp; try with_reducible rfl)
    simp only [Act.put, List.setIfInBounds_toArray, List.set_cons_zero, List.set_cons_succ]
    refine Zs.take (i := 12) (oi := ⟨some 52, _, _, _, _, _⟩) (v := .slice (some ⟨g2, o2, none⟩) (nr + 1) cp) rfl (by kernel_rfl) (by kernel_rfl) (by kernel_rfl) (by decide) (by kernel_rfl) (by kernel_rfl) (fun _ _ _ h => h) (Or.inl ⟨by rfl, ?hy12⟩) (by assumption) ?_
    case hy12 => (intro w hSw; (try dsimp only at hSw); go_simp; try with_reducible rfl)
    simp only [Act.put, List.setIfInBounds_toArray, List.set_cons_zero, List.set_cons_succ]
    refine Zs.take (i := 13) (oi := ⟨some 53, _, _, _, _, _⟩) (v := .slice (some ⟨g2, o2 + 2, none⟩) nr (cp - 1)) rfl (by kernel_rfl) (by kernel_rfl) (by kernel_rfl) (by decide) (by kernel_rfl) (by kernel_rfl) (fun _ _ _ h => h) (Or.inl ⟨by rfl, ?hy13⟩) (by assumption) ?_
    case hy13 => (intro w hSw; (try dsimp only at hSw); go_simp; try with_reducible rfl)
    simp only [Act.put, List.setIfInBounds_toArray, List.set_cons_zero, List.set_cons_succ]
    refine Zs.pure (i := 14) (oi := ⟨some 54, _, _, _, _, _⟩) (v := ?v14) rfl (by kernel_rfl) (by kernel_rfl) (by kernel_rfl) (by decide) (fun _ _ _ h => h) (Or.inl ⟨by rfl, ?hy14⟩) (by assumption) ?_
    case hy14 => (intro w hSw; (try dsimp only at hSw); go_simp; try with_reducible rfl)
    simp only [Act.put, List.setIfInBounds_toArray, List.set_cons_zero, List.set_cons_succ]
    refine Zs.take (i := 15) (oi := ⟨some 55, _, _, _, _, _⟩) (v := ?v15) rfl (by kernel_rfl) (by kernel_rfl) (by kernel_rfl) (by decide) (by kernel_rfl) (by kernel_rfl) (fun _ _ _ h => h) (Or.inl ⟨by rfl, ?hy15⟩) (by assumption) ?_
    case hy15 => (intro w hSw; (try dsimp only at hSw); go_simp; try with_reducible rfl)
    simp only [Act.put, List.setIfInBounds_toArray, List.set_cons_zero, List.set_cons_succ]
    refine Zs.one (i := 16) (oi := ⟨none, _, _, _, _, _⟩) (by kernel_rfl) rfl (fun K hK => ?_)
    go_simp
    refine hK.out _ _ (fun q => absurd q (by decide)) ?_
    clear hK K
    refine Zs.done (by kernel_rfl) ?_ _
    go_wp2_with (rw [hw5])
    exact bodyPost_ret (v := .tuple #[.agg #[.int .i64 ia, .string ta], .int .i64 0]) (by simp [results, Try.results16, go_sem, g2', g3]) rfl ⟨rfl, _, fin.out⟩
end Go.Proofs.Ytppbdamlhcmlcaa
