/- The reference's Exit. -/
import Derived.Test.YtcikjnifkoagpaaRQ5
import Derived.Test.YtcikjnifkoagpaaPH
namespace Go.Proofs.Ytcikjnifkoagpaa
open Go.RowKit Go.Shelf Go.Lib
def rexE (l : Ps) (k : Int) : Int := if ((lk l k).isSome = true ∧ ((lk l k).getD zPr).zom = false) ∧ k ≠ 1 then 0 else 80
def rexL (l : Ps) (k s : Int) : Ps := if rexE l k = 0 then (l.set (ixP l k).toNat { (lk l k).getD zPr with zom := true, st := wiP s }).map (orph k) else l
theorem set_same {α : Type} {l : List α} {j : Nat} {x : α} (h : l[j]? = some x) : l.set j x = l := by
  obtain ⟨hj, rfl⟩ := List.getElem?_eq_some_iff.1 h
  exact List.set_getElem_self hj
def orf (k : Int) (l : Ps) (j : Nat) : Ps := (l.take j).map (orph k) ++ l.drop j
theorem orf_at {k : Int} {l : Ps} {j : Nat} {x : Pr} (h : l[j]? = some x) : (orf k l j)[j]? = some x := by
  have hj := (List.getElem?_eq_some_iff.1 h).1
  unfold orf
  rw [List.getElem?_append_right (by simp; omega)]
  simp only [List.length_map, List.length_take]
  rw [List.getElem?_drop, show j + (j - min j l.length) = j by omega]
  exact h
theorem orf_set {k : Int} {l : Ps} {j : Nat} {x : Pr} (h : l[j]? = some x) : (orf k l j).set j (orph k x) = orf k l (j + 1) := by
  obtain ⟨hj, hx⟩ := List.getElem?_eq_some_iff.1 h
  unfold orf
  rw [List.set_append_right _ _ (by simp; omega), List.take_add_one, h]
  simp only [List.length_map, List.length_take, Option.toList_some, List.map_append, List.map_cons, List.map_nil, List.append_assoc]
  rw [show j - min j l.length = 0 by omega, List.drop_eq_getElem_cons hj, List.set_cons_zero]
  rfl
theorem orf_len (k : Int) (l : Ps) (j : Nat) : (orf k l j).length = l.length := by unfold orf; simp; omega
theorem orf_all (k : Int) (l : Ps) : orf k l l.length = l.map (orph k) := by unfold orf; simp
theorem orf_0 (k : Int) (l : Ps) : orf k l 0 = l := by unfold orf; simp
set_option maxRecDepth 100000 in
set_option maxHeartbeats 8000000 in
theorem rexit_any {b g cap : Nat} {room last : Int} {l : Ps} (k s : Int) (w : World) (h : RO w b g cap room last l) :
    Calls Try.prog 12 #[.pointer (some ⟨b, 0, none⟩), .int .i64 k, .int .i64 s] w fun e w' => e = .returned (.int .i64 (rexE l k)) ∧ ∃ g' cap', Rg b g w g' cap' room last (rexL l k s) w' := by
  have hL := rlives_any k w h.rt
  have stay : Hid (Rg b g w g cap room last l w) := ⟨h, Mv.refl _ _, .inl rfl⟩
  have no : rexE l k = 80 → rexL l k s = l := fun e => by unfold rexL; rw [e]; rfl
  rcases lv_lk l k with ⟨e1, e2⟩ | ⟨i, p, hp, e1, e2, hz⟩
  · have hE : rexE l k = 80 := by
      unfold rexE
      rw [if_neg]
      rintro ⟨⟨q1, q2⟩, _⟩
      rcases e2 with e2 | ⟨p, e2, hz⟩
      · cases e3 : lk l k with
        | none => rw [e3] at q1; cases q1
        | some p => rw [e3] at e2; cases e2
      · rw [e2] at q2; simp only [Option.getD_some] at q2; rw [hz] at q2; cases q2
    rw [hE, no hE]
    rw [e1] at hL
    clear h e1 e2 hE no
    go_enter Try.func12, Try.ntmps12
    go_wp2_with fail
    refine hL.mono ?_
    rintro e w1 ⟨rfl, rfl⟩
    go_wp2_with fail
    go_ret
    exact ⟨rfl, _, _, stay.out⟩
  have hix := lv_ix e1 e2 hz
  rw [e1] at hL
  have hid : decide ((i : Int) < 0) = false := by simp
  by_cases hk1 : k = 1
  · have hE : rexE l k = 80 := by unfold rexE; rw [if_neg (fun q => q.2 hk1)]
    rw [hE, no hE]
    subst hk1
    clear h e1 e2 hE no hix
    go_enter Try.func12, Try.ntmps12
    go_wp2_with fail
    refine hL.mono ?_
    rintro e w1 ⟨rfl, rfl⟩
    go_wp2_with fail
    go_ret
    exact ⟨rfl, _, _, stay.out⟩
  have hk1b : (k == 1) = false := by simpa using hk1
  have hE : rexE l k = 0 := by unfold rexE; rw [if_pos ⟨⟨by rw [e2]; rfl, by rw [e2]; exact hz⟩, hk1⟩]
  obtain ⟨sv, hsv⟩ : ∃ sv, wiP s = sv := ⟨_, rfl⟩
  have hLL : rexL l k s = (l.set i { p with zom := true, st := sv }).map (orph k) := by unfold rexL; rw [if_pos hE, hix, e2, hsv]; rfl
  rw [hE, hLL]
  have hil := (List.getElem?_eq_some_iff.1 hp).1
  have h1 := h.set (q := 3) (p' := { p with zom := true }) (v := .bool true) hp (by decide) rfl
  have hp1 : (l.set i { p with zom := true })[i]? = some { p with zom := true } := by simp [hil]
  have h2 := h1.set (q := 4) (p' := { p with zom := true, st := sv }) (v := .int .i64 sv) hp1 (by decide) rfl
  rw [List.set_set] at h2
  obtain ⟨W2, hW2⟩ : ∃ W2, ((w.setCell ⟨g, i * 8 + 3, none⟩ (.bool true)).setCell ⟨g, i * 8 + 4, none⟩ (.int .i64 sv)).drew = W2 := ⟨_, rfl⟩
  have h2d : RO W2 b g cap room last (l.set i { p with zom := true, st := sv }) := by rw [← hW2]; exact h2.below ((Below.refl _ _).drew)
  have m2 : Mv (fun k => k = b ∨ k = g) w W2 := by
    rw [← hW2]
    exact (((Mv.refl (fun k => k = b ∨ k = g) w).setc (p := ⟨g, i * 8 + 3, none⟩) (.inl (.inr rfl)) _).setc (p := ⟨g, i * 8 + 4, none⟩) (.inl (.inr rfl)) _).trans' (Mv.drew _ _)
  obtain ⟨nl, hnl⟩ : ∃ nl, l.length = nl := ⟨_, rfl⟩
  have hlen := h.len
  have c0 : w.drew.cell? ⟨b, 0, none⟩ = some (.slice (some ⟨g, 0, none⟩) l.length cap) := h.c0
  rw [hnl] at c0 hlen
  have hi : (i : Int) < (nl : Int) := by omega
  have d3 : w.drew.cell? ⟨g, i * 8 + 3, none⟩ = some (.bool p.zom) := h.at hp (q := 3) rfl
  have f3 : w.drew.frozen? ⟨g, i * 8 + 3, none⟩ = false := h.frz _
  obtain ⟨W1, hW1⟩ : ∃ W1, (w.setCell ⟨g, i * 8 + 3, none⟩ (.bool true)).drew = W1 := ⟨_, rfl⟩
  have d4 : W1.cell? ⟨g, i * 8 + 4, none⟩ = some (.int .i64 p.st) := by rw [← hW1]; exact h1.at hp1 (q := 4) rfl
  have f4 : W1.frozen? ⟨g, i * 8 + 4, none⟩ = false := by rw [← hW1]; exact h1.frz _
  have hW12 : (W1.setCell ⟨g, i * 8 + 4, none⟩ (.int .i64 sv)) = W2 := by rw [← hW1, ← hW2]; rfl
  obtain ⟨l1, hl1⟩ : ∃ l1, l.set i { p with zom := true, st := sv } = l1 := ⟨_, rfl⟩
  have hl1n : l1.length = nl := by rw [← hl1, List.length_set]; exact hnl
  rw [hl1] at h2d ⊢
  have st2 : Hid (RO W2 b g cap room last (orf k l1 0) ∧ Mv (fun k => k = b ∨ k = g) w W2) := ⟨by rw [orf_0]; exact h2d, m2⟩
  have hl1H := hidP hl1n
  have hHeld : w.drew.cell? ⟨b, 0, none⟩ = some (.slice (some ⟨g, 0, none⟩) nl cap) := c0
  have hlenH := hidP hlen
  clear h h1 h2 h2d hp1 hp hil e1 e2 hE hLL no hix hnl hz stay m2 hl1 hl1n hW2
  rcases (by omega : s < -64 ∨ (¬ s < -64 ∧ 255 < s) ∨ (¬ s < -64 ∧ ¬ 255 < s)) with hA | ⟨hA, hB⟩ | ⟨hA, hB⟩
  · have hv : 255 = sv := by rw [← hsv]; unfold wiP; rw [if_pos (.inl hA)]
    subst hv
    clear hsv
    go_enter Try.func12, Try.ntmps12
    go_wp2_with fail
    refine hL.mono ?_
    rintro e w1 ⟨rfl, rfl⟩
    clear hL
    go_wp2_with fail
    refine Zs.region (S := fun y => y.cell? ⟨b, 0, none⟩ = some (.slice (some ⟨g, 0, none⟩) nl cap)) 14 (by kernel_rfl) ?_
    refine Zs.pure (i := 0) (oi := ⟨some 24, _, _, _, _, _⟩) (v := ?v0) rfl (by kernel_rfl) (by kernel_rfl) (by kernel_rfl) (by decide) (fun _ _ _ h => h) (Or.inl ⟨by rfl, ?hy0⟩) hHeld ?_
    case hy0 => (intro w hSw; (try dsimp only at hSw); go_simp; try with_reducible rfl)
    simp only [Act.put, List.setIfInBounds_toArray, List.set_cons_zero, List.set_cons_succ]
    refine Zs.pure (i := 1) (oi := ⟨some 25, _, _, _, _, _⟩) (v := ?v1) rfl (by kernel_rfl) (by kernel_rfl) (by kernel_rfl) (by decide) (fun _ _ _ h => h) (Or.inl ⟨by rfl, ?hy1⟩) hHeld ?_
    case hy1 => (intro w hSw; (try dsimp only at hSw); go_simp; try with_reducible rfl)
    simp only [Act.put, List.setIfInBounds_toArray, List.set_cons_zero, List.set_cons_succ]
    refine Zs.pure (i := 2) (oi := ⟨some 26, _, _, _, _, _⟩) (v := ?v2) rfl (by kernel_rfl) (by kernel_rfl) (by kernel_rfl) (by decide) (fun _ _ _ h => h) (Or.inl ⟨by rfl, ?hy2⟩) hHeld ?_
    case hy2 => (intro w hSw; (try dsimp only at hSw); go_simp; try with_reducible rfl)
    simp only [Act.put, List.setIfInBounds_toArray, List.set_cons_zero, List.set_cons_succ]
    refine Zs.takeC (f := 30) (i := 3) (oi := ⟨some 27, _, _, _, _, _⟩) (v := ?v3) rfl (by kernel_rfl) (by kernel_rfl) (by kernel_rfl) (by decide) (by kernel_rfl) (by kernel_rfl) (by kernel_rfl) (fun _ _ _ h => h) (Or.inl ⟨by rfl, ?hy3⟩) hHeld ?_
    case hy3 => (intro w hSw; (try dsimp only at hSw); go_simp; try with_reducible rfl)
    simp only [Act.put, List.setIfInBounds_toArray, List.set_cons_zero, List.set_cons_succ]
    refine Zs.pure (i := 4) (oi := ⟨some 28, _, _, _, _, _⟩) (v := ?v4) rfl (by kernel_rfl) (by kernel_rfl) (by kernel_rfl) (by decide) (fun _ _ _ h => h) (Or.inl ⟨by rfl, ?hy4⟩) hHeld ?_
    case hy4 => (intro w hSw; (try dsimp only at hSw); go_simp; try with_reducible rfl)
    simp only [Act.put, List.setIfInBounds_toArray, List.set_cons_zero, List.set_cons_succ]
    refine Zs.pure (i := 5) (oi := ⟨some 29, _, _, _, _, _⟩) (v := ?v5) rfl (by kernel_rfl) (by kernel_rfl) (by kernel_rfl) (by decide) (fun _ _ _ h => h) (Or.inl ⟨by rfl, ?hy5⟩) hHeld ?_
    case hy5 => (intro w hSw; (try dsimp only at hSw); go_simp; try with_reducible rfl)
    simp only [Act.put, List.setIfInBounds_toArray, List.set_cons_zero, List.set_cons_succ]
    refine Zs.pure (i := 6) (oi := ⟨some 30, _, _, _, _, _⟩) (v := ?v6) rfl (by kernel_rfl) (by kernel_rfl) (by kernel_rfl) (by decide) (fun _ _ _ h => h) (Or.inl ⟨by rfl, ?hy6⟩) hHeld ?_
    case hy6 => (intro w hSw; (try dsimp only at hSw); go_simp; try with_reducible rfl)
    simp only [Act.put, List.setIfInBounds_toArray, List.set_cons_zero, List.set_cons_succ]
    refine Zs.pure (i := 7) (oi := ⟨some 31, _, _, _, _, _⟩) (v := ?v7) rfl (by kernel_rfl) (by kernel_rfl) (by kernel_rfl) (by decide) (fun _ _ _ h => h) (Or.inl ⟨by rfl, ?hy7⟩) hHeld ?_
    case hy7 => (intro w hSw; (try dsimp only at hSw); go_simp; try with_reducible rfl)
    simp only [Act.put, List.setIfInBounds_toArray, List.set_cons_zero, List.set_cons_succ]
    refine Zs.takeC (f := 30) (i := 8) (oi := ⟨some 32, _, _, _, _, _⟩) (v := ?v8) rfl (by kernel_rfl) (by kernel_rfl) (by kernel_rfl) (by decide) (by kernel_rfl) (by kernel_rfl) (by kernel_rfl) (fun _ _ _ h => h) (Or.inl ⟨by rfl, ?hy8⟩) hHeld ?_
    case hy8 => (intro w hSw; (try dsimp only at hSw); go_simp; try with_reducible rfl)
    simp only [Act.put, List.setIfInBounds_toArray, List.set_cons_zero, List.set_cons_succ]
    refine Zs.pure (i := 9) (oi := ⟨some 33, _, _, _, _, _⟩) (v := ?v9) rfl (by kernel_rfl) (by kernel_rfl) (by kernel_rfl) (by decide) (fun _ _ _ h => h) (Or.inl ⟨by rfl, ?hy9⟩) hHeld ?_
    case hy9 => (intro w hSw; (try dsimp only at hSw); go_simp; try with_reducible rfl)
    simp only [Act.put, List.setIfInBounds_toArray, List.set_cons_zero, List.set_cons_succ]
    refine Zs.pure (i := 10) (oi := ⟨some 34, _, _, _, _, _⟩) (v := .int .i64 255) rfl (by kernel_rfl) (by kernel_rfl) (by kernel_rfl) (by decide) (fun _ _ _ h => h) (Or.inl ⟨by rfl, ?hy10⟩) hHeld ?_
    case hy10 => (intro w hSw; (try dsimp only at hSw); go_simp; try with_reducible rfl)
    simp only [Act.put, List.setIfInBounds_toArray, List.set_cons_zero, List.set_cons_succ]
    refine Zs.pure (i := 11) (oi := ⟨some 35, _, _, _, _, _⟩) (v := ?v11) rfl (by kernel_rfl) (by kernel_rfl) (by kernel_rfl) (by decide) (fun _ _ _ h => h) (Or.inl ⟨by rfl, ?hy11⟩) hHeld ?_
    case hy11 => (intro w hSw; (try dsimp only at hSw); go_simp; try with_reducible rfl)
    simp only [Act.put, List.setIfInBounds_toArray, List.set_cons_zero, List.set_cons_succ]
    refine Zs.pure (i := 12) (oi := ⟨some 36, _, _, _, _, _⟩) (v := ?v12) rfl (by kernel_rfl) (by kernel_rfl) (by kernel_rfl) (by decide) (fun _ _ _ h => h) (Or.inl ⟨by rfl, ?hy12⟩) hHeld ?_
    case hy12 => (intro w hSw; (try dsimp only at hSw); go_simp; try with_reducible rfl)
    simp only [Act.put, List.setIfInBounds_toArray, List.set_cons_zero, List.set_cons_succ]
    refine Zs.pure (i := 13) (oi := ⟨some 37, _, _, _, _, _⟩) (v := ?v13) rfl (by kernel_rfl) (by kernel_rfl) (by kernel_rfl) (by decide) (fun _ _ _ h => h) (Or.inl ⟨by rfl, ?hy13⟩) hHeld ?_
    case hy13 => (intro w hSw; (try dsimp only at hSw); go_simp; try with_reducible rfl)
    simp only [Act.put, List.setIfInBounds_toArray, List.set_cons_zero, List.set_cons_succ]
    refine Zs.one (i := 14) (oi := ⟨none, _, _, _, _, _⟩) (by kernel_rfl) rfl (fun K hK => ?_)
    go_simp
    try rw [hW1]
    refine hK.out _ _ (fun q => absurd q (by decide)) ?_
    clear hK K hHeld
    refine Zs.late (i := 15) (oi := ⟨some 38, _, _, _, _, _⟩) (v := ?v15) rfl (by kernel_rfl) (by kernel_rfl) (by kernel_rfl) (by decide) (fun _ _ _ h => h) (Or.inl ⟨by rfl, ?hy15⟩) (by kernel_rfl) ?_
    case hy15 => (intro w hSw; (try dsimp only at hSw); go_simp; try with_reducible rfl)
    simp only [Act.put, List.setIfInBounds_toArray, List.set_cons_zero, List.set_cons_succ]
    refine Zs.late (i := 16) (oi := ⟨some 39, _, _, _, _, _⟩) (v := ?v16) rfl (by kernel_rfl) (by kernel_rfl) (by kernel_rfl) (by decide) (fun _ _ _ h => h) (Or.inl ⟨by rfl, ?hy16⟩) (by kernel_rfl) ?_
    case hy16 => (intro w hSw; (try dsimp only at hSw); go_simp; try with_reducible rfl)
    simp only [Act.put, List.setIfInBounds_toArray, List.set_cons_zero, List.set_cons_succ]
    refine Zs.late (i := 17) (oi := ⟨some 40, _, _, _, _, _⟩) (v := ?v17) rfl (by kernel_rfl) (by kernel_rfl) (by kernel_rfl) (by decide) (fun _ _ _ h => h) (Or.inl ⟨by rfl, ?hy17⟩) (by kernel_rfl) ?_
    case hy17 => (intro w hSw; (try dsimp only at hSw); go_simp; try with_reducible rfl)
    simp only [Act.put, List.setIfInBounds_toArray, List.set_cons_zero, List.set_cons_succ]
    refine Zs.one (i := 18) (oi := ⟨none, _, _, _, _, _⟩) (by kernel_rfl) rfl (fun K hK => ?_)
    go_simp
    try rw [hW12]
    refine hK.out _ _ (fun q => absurd q (by decide)) ?_
    clear hK K
    refine Zs.done (by kernel_rfl) ?_ _
    clear d3 f3 d4 f4 c0 hW1 hW12
    go_wp2_with fail
    go_loopw [8] (fun v8 wr => ∃ j : Nat, j ≤ nl ∧ v8 = .int .i64 j ∧ Hid (RO wr b g cap room last (orf k l1 j) ∧ Mv (fun k => k = b ∨ k = g) w1 wr)) (fun v8 _ => nl - (intOf v8).toNat)
    case atStart => exact ⟨0, by omega, rfl, st2⟩
    case round =>
      clear st2
      obtain ⟨j, hj, rfl, hI⟩ := hrel
      have c0 := hI.out.1.c0
      rw [orf_len, hl1H.out] at c0
      have hlen := hlenH.out
      by_cases hlt : j < nl
      · have hltI : (j : Int) < (nl : Int) := by omega
        obtain ⟨x, hx⟩ : ∃ x, l1[j]? = some x := ⟨_, List.getElem?_eq_getElem (by rw [hl1H.out]; exact hlt)⟩
        have hx2 := orf_at (k := k) hx
        have q1 := hI.out.1.at hx2 (q := 1) rfl
        have f1 := hI.out.1.frz (j * 8 + 1)
        by_cases hpk : x.par = k
        · have e1 : Hid (RO (wr.setCell ⟨g, j * 8 + 1, none⟩ (.int .i64 1)) b g cap room last (orf k l1 (j + 1)) ∧ Mv (fun k => k = b ∨ k = g) w1 (wr.setCell ⟨g, j * 8 + 1, none⟩ (.int .i64 1))) := by
            have := hI.out.1.set (q := 1) (p' := orph k x) (v := .int .i64 1) hx2 (by decide) (by unfold orph; rw [if_pos hpk]; rfl)
            rw [orf_set hx] at this
            exact ⟨this, hI.out.2.setc (p := ⟨g, j * 8 + 1, none⟩) (.inl (.inr rfl)) _⟩
          rw [hpk] at q1
          clear hI hx hx2
          go_wp2_with fail
          exact ⟨⟨j + 1, by omega, by go_num, e1⟩, by simp [intOf]; omega⟩
        · have e1 : Hid (RO wr b g cap room last (orf k l1 (j + 1)) ∧ Mv (fun k => k = b ∨ k = g) w1 wr) := by
            refine ⟨?_, hI.out.2⟩
            rw [← orf_set hx]
            have ho : orph k x = x := by unfold orph; rw [if_neg hpk]
            rw [ho, set_same hx2]
            exact hI.out.1
          obtain ⟨xp, hxp⟩ : ∃ xp, x.par = xp := ⟨_, rfl⟩
          rw [hxp] at q1 hpk
          have hpb : (xp == k) = false := by simpa using hpk
          clear hI hx hx2 hxp
          go_wp2_with fail
          exact ⟨⟨j + 1, by omega, by go_num, e1⟩, by simp [intOf]; omega⟩
      · have hltI : decide ((j : Int) < (nl : Int)) = false := by simp; omega
        have fin : Hid (Rg b g w1 g cap room last (l1.map (orph k)) wr) := by
          have h7 := hI.out.1
          rw [show j = l1.length by rw [hl1H.out]; omega, orf_all] at h7
          exact ⟨h7, hI.out.2, .inl rfl⟩
        clear hI
        go_wp2_with fail
        go_ret
        exact ⟨rfl, _, _, fin.out⟩
  · have hv : 255 = sv := by rw [← hsv]; unfold wiP; rw [if_pos (.inr hB)]
    subst hv
    have hAd : decide (s < -64) = false := by simpa using hA
    clear hsv
    go_enter Try.func12, Try.ntmps12
    go_wp2_with fail
    refine hL.mono ?_
    rintro e w1 ⟨rfl, rfl⟩
    clear hL
    go_wp2_with fail
    refine Zs.region (S := fun y => y.cell? ⟨b, 0, none⟩ = some (.slice (some ⟨g, 0, none⟩) nl cap)) 14 (by kernel_rfl) ?_
    refine Zs.pure (i := 0) (oi := ⟨some 24, _, _, _, _, _⟩) (v := ?v0) rfl (by kernel_rfl) (by kernel_rfl) (by kernel_rfl) (by decide) (fun _ _ _ h => h) (Or.inl ⟨by rfl, ?hy0⟩) hHeld ?_
    case hy0 => (intro w hSw; (try dsimp only at hSw); go_simp; try with_reducible rfl)
    simp only [Act.put, List.setIfInBounds_toArray, List.set_cons_zero, List.set_cons_succ]
    refine Zs.pure (i := 1) (oi := ⟨some 25, _, _, _, _, _⟩) (v := ?v1) rfl (by kernel_rfl) (by kernel_rfl) (by kernel_rfl) (by decide) (fun _ _ _ h => h) (Or.inl ⟨by rfl, ?hy1⟩) hHeld ?_
    case hy1 => (intro w hSw; (try dsimp only at hSw); go_simp; try with_reducible rfl)
    simp only [Act.put, List.setIfInBounds_toArray, List.set_cons_zero, List.set_cons_succ]
    refine Zs.pure (i := 2) (oi := ⟨some 26, _, _, _, _, _⟩) (v := ?v2) rfl (by kernel_rfl) (by kernel_rfl) (by kernel_rfl) (by decide) (fun _ _ _ h => h) (Or.inl ⟨by rfl, ?hy2⟩) hHeld ?_
    case hy2 => (intro w hSw; (try dsimp only at hSw); go_simp; try with_reducible rfl)
    simp only [Act.put, List.setIfInBounds_toArray, List.set_cons_zero, List.set_cons_succ]
    refine Zs.takeC (f := 30) (i := 3) (oi := ⟨some 27, _, _, _, _, _⟩) (v := ?v3) rfl (by kernel_rfl) (by kernel_rfl) (by kernel_rfl) (by decide) (by kernel_rfl) (by kernel_rfl) (by kernel_rfl) (fun _ _ _ h => h) (Or.inl ⟨by rfl, ?hy3⟩) hHeld ?_
    case hy3 => (intro w hSw; (try dsimp only at hSw); go_simp; try with_reducible rfl)
    simp only [Act.put, List.setIfInBounds_toArray, List.set_cons_zero, List.set_cons_succ]
    refine Zs.pure (i := 4) (oi := ⟨some 28, _, _, _, _, _⟩) (v := ?v4) rfl (by kernel_rfl) (by kernel_rfl) (by kernel_rfl) (by decide) (fun _ _ _ h => h) (Or.inl ⟨by rfl, ?hy4⟩) hHeld ?_
    case hy4 => (intro w hSw; (try dsimp only at hSw); go_simp; try with_reducible rfl)
    simp only [Act.put, List.setIfInBounds_toArray, List.set_cons_zero, List.set_cons_succ]
    refine Zs.pure (i := 5) (oi := ⟨some 29, _, _, _, _, _⟩) (v := ?v5) rfl (by kernel_rfl) (by kernel_rfl) (by kernel_rfl) (by decide) (fun _ _ _ h => h) (Or.inl ⟨by rfl, ?hy5⟩) hHeld ?_
    case hy5 => (intro w hSw; (try dsimp only at hSw); go_simp; try with_reducible rfl)
    simp only [Act.put, List.setIfInBounds_toArray, List.set_cons_zero, List.set_cons_succ]
    refine Zs.pure (i := 6) (oi := ⟨some 30, _, _, _, _, _⟩) (v := ?v6) rfl (by kernel_rfl) (by kernel_rfl) (by kernel_rfl) (by decide) (fun _ _ _ h => h) (Or.inl ⟨by rfl, ?hy6⟩) hHeld ?_
    case hy6 => (intro w hSw; (try dsimp only at hSw); go_simp; try with_reducible rfl)
    simp only [Act.put, List.setIfInBounds_toArray, List.set_cons_zero, List.set_cons_succ]
    refine Zs.pure (i := 7) (oi := ⟨some 31, _, _, _, _, _⟩) (v := ?v7) rfl (by kernel_rfl) (by kernel_rfl) (by kernel_rfl) (by decide) (fun _ _ _ h => h) (Or.inl ⟨by rfl, ?hy7⟩) hHeld ?_
    case hy7 => (intro w hSw; (try dsimp only at hSw); go_simp; try with_reducible rfl)
    simp only [Act.put, List.setIfInBounds_toArray, List.set_cons_zero, List.set_cons_succ]
    refine Zs.takeC (f := 30) (i := 8) (oi := ⟨some 32, _, _, _, _, _⟩) (v := ?v8) rfl (by kernel_rfl) (by kernel_rfl) (by kernel_rfl) (by decide) (by kernel_rfl) (by kernel_rfl) (by kernel_rfl) (fun _ _ _ h => h) (Or.inl ⟨by rfl, ?hy8⟩) hHeld ?_
    case hy8 => (intro w hSw; (try dsimp only at hSw); go_simp; try with_reducible rfl)
    simp only [Act.put, List.setIfInBounds_toArray, List.set_cons_zero, List.set_cons_succ]
    refine Zs.pure (i := 9) (oi := ⟨some 33, _, _, _, _, _⟩) (v := ?v9) rfl (by kernel_rfl) (by kernel_rfl) (by kernel_rfl) (by decide) (fun _ _ _ h => h) (Or.inl ⟨by rfl, ?hy9⟩) hHeld ?_
    case hy9 => (intro w hSw; (try dsimp only at hSw); go_simp; try with_reducible rfl)
    simp only [Act.put, List.setIfInBounds_toArray, List.set_cons_zero, List.set_cons_succ]
    refine Zs.pure (i := 10) (oi := ⟨some 34, _, _, _, _, _⟩) (v := .int .i64 255) rfl (by kernel_rfl) (by kernel_rfl) (by kernel_rfl) (by decide) (fun _ _ _ h => h) (Or.inl ⟨by rfl, ?hy10⟩) hHeld ?_
    case hy10 => (intro w hSw; (try dsimp only at hSw); go_simp; try with_reducible rfl)
    simp only [Act.put, List.setIfInBounds_toArray, List.set_cons_zero, List.set_cons_succ]
    refine Zs.pure (i := 11) (oi := ⟨some 35, _, _, _, _, _⟩) (v := ?v11) rfl (by kernel_rfl) (by kernel_rfl) (by kernel_rfl) (by decide) (fun _ _ _ h => h) (Or.inl ⟨by rfl, ?hy11⟩) hHeld ?_
    case hy11 => (intro w hSw; (try dsimp only at hSw); go_simp; try with_reducible rfl)
    simp only [Act.put, List.setIfInBounds_toArray, List.set_cons_zero, List.set_cons_succ]
    refine Zs.pure (i := 12) (oi := ⟨some 36, _, _, _, _, _⟩) (v := ?v12) rfl (by kernel_rfl) (by kernel_rfl) (by kernel_rfl) (by decide) (fun _ _ _ h => h) (Or.inl ⟨by rfl, ?hy12⟩) hHeld ?_
    case hy12 => (intro w hSw; (try dsimp only at hSw); go_simp; try with_reducible rfl)
    simp only [Act.put, List.setIfInBounds_toArray, List.set_cons_zero, List.set_cons_succ]
    refine Zs.pure (i := 13) (oi := ⟨some 37, _, _, _, _, _⟩) (v := ?v13) rfl (by kernel_rfl) (by kernel_rfl) (by kernel_rfl) (by decide) (fun _ _ _ h => h) (Or.inl ⟨by rfl, ?hy13⟩) hHeld ?_
    case hy13 => (intro w hSw; (try dsimp only at hSw); go_simp; try with_reducible rfl)
    simp only [Act.put, List.setIfInBounds_toArray, List.set_cons_zero, List.set_cons_succ]
    refine Zs.one (i := 14) (oi := ⟨none, _, _, _, _, _⟩) (by kernel_rfl) rfl (fun K hK => ?_)
    go_simp
    try rw [hW1]
    refine hK.out _ _ (fun q => absurd q (by decide)) ?_
    clear hK K hHeld
    refine Zs.late (i := 15) (oi := ⟨some 38, _, _, _, _, _⟩) (v := ?v15) rfl (by kernel_rfl) (by kernel_rfl) (by kernel_rfl) (by decide) (fun _ _ _ h => h) (Or.inl ⟨by rfl, ?hy15⟩) (by kernel_rfl) ?_
    case hy15 => (intro w hSw; (try dsimp only at hSw); go_simp; try with_reducible rfl)
    simp only [Act.put, List.setIfInBounds_toArray, List.set_cons_zero, List.set_cons_succ]
    refine Zs.late (i := 16) (oi := ⟨some 39, _, _, _, _, _⟩) (v := ?v16) rfl (by kernel_rfl) (by kernel_rfl) (by kernel_rfl) (by decide) (fun _ _ _ h => h) (Or.inl ⟨by rfl, ?hy16⟩) (by kernel_rfl) ?_
    case hy16 => (intro w hSw; (try dsimp only at hSw); go_simp; try with_reducible rfl)
    simp only [Act.put, List.setIfInBounds_toArray, List.set_cons_zero, List.set_cons_succ]
    refine Zs.late (i := 17) (oi := ⟨some 40, _, _, _, _, _⟩) (v := ?v17) rfl (by kernel_rfl) (by kernel_rfl) (by kernel_rfl) (by decide) (fun _ _ _ h => h) (Or.inl ⟨by rfl, ?hy17⟩) (by kernel_rfl) ?_
    case hy17 => (intro w hSw; (try dsimp only at hSw); go_simp; try with_reducible rfl)
    simp only [Act.put, List.setIfInBounds_toArray, List.set_cons_zero, List.set_cons_succ]
    refine Zs.one (i := 18) (oi := ⟨none, _, _, _, _, _⟩) (by kernel_rfl) rfl (fun K hK => ?_)
    go_simp
    try rw [hW12]
    refine hK.out _ _ (fun q => absurd q (by decide)) ?_
    clear hK K
    refine Zs.done (by kernel_rfl) ?_ _
    clear d3 f3 d4 f4 c0 hW1 hW12
    go_wp2_with fail
    go_loopw [8] (fun v8 wr => ∃ j : Nat, j ≤ nl ∧ v8 = .int .i64 j ∧ Hid (RO wr b g cap room last (orf k l1 j) ∧ Mv (fun k => k = b ∨ k = g) w1 wr)) (fun v8 _ => nl - (intOf v8).toNat)
    case atStart => exact ⟨0, by omega, rfl, st2⟩
    case round =>
      clear st2
      obtain ⟨j, hj, rfl, hI⟩ := hrel
      have c0 := hI.out.1.c0
      rw [orf_len, hl1H.out] at c0
      have hlen := hlenH.out
      by_cases hlt : j < nl
      · have hltI : (j : Int) < (nl : Int) := by omega
        obtain ⟨x, hx⟩ : ∃ x, l1[j]? = some x := ⟨_, List.getElem?_eq_getElem (by rw [hl1H.out]; exact hlt)⟩
        have hx2 := orf_at (k := k) hx
        have q1 := hI.out.1.at hx2 (q := 1) rfl
        have f1 := hI.out.1.frz (j * 8 + 1)
        by_cases hpk : x.par = k
        · have e1 : Hid (RO (wr.setCell ⟨g, j * 8 + 1, none⟩ (.int .i64 1)) b g cap room last (orf k l1 (j + 1)) ∧ Mv (fun k => k = b ∨ k = g) w1 (wr.setCell ⟨g, j * 8 + 1, none⟩ (.int .i64 1))) := by
            have := hI.out.1.set (q := 1) (p' := orph k x) (v := .int .i64 1) hx2 (by decide) (by unfold orph; rw [if_pos hpk]; rfl)
            rw [orf_set hx] at this
            exact ⟨this, hI.out.2.setc (p := ⟨g, j * 8 + 1, none⟩) (.inl (.inr rfl)) _⟩
          rw [hpk] at q1
          clear hI hx hx2
          go_wp2_with fail
          exact ⟨⟨j + 1, by omega, by go_num, e1⟩, by simp [intOf]; omega⟩
        · have e1 : Hid (RO wr b g cap room last (orf k l1 (j + 1)) ∧ Mv (fun k => k = b ∨ k = g) w1 wr) := by
            refine ⟨?_, hI.out.2⟩
            rw [← orf_set hx]
            have ho : orph k x = x := by unfold orph; rw [if_neg hpk]
            rw [ho, set_same hx2]
            exact hI.out.1
          obtain ⟨xp, hxp⟩ : ∃ xp, x.par = xp := ⟨_, rfl⟩
          rw [hxp] at q1 hpk
          have hpb : (xp == k) = false := by simpa using hpk
          clear hI hx hx2 hxp
          go_wp2_with fail
          exact ⟨⟨j + 1, by omega, by go_num, e1⟩, by simp [intOf]; omega⟩
      · have hltI : decide ((j : Int) < (nl : Int)) = false := by simp; omega
        have fin : Hid (Rg b g w1 g cap room last (l1.map (orph k)) wr) := by
          have h7 := hI.out.1
          rw [show j = l1.length by rw [hl1H.out]; omega, orf_all] at h7
          exact ⟨h7, hI.out.2, .inl rfl⟩
        clear hI
        go_wp2_with fail
        go_ret
        exact ⟨rfl, _, _, fin.out⟩
  · have hv : s = sv := by rw [← hsv]; unfold wiP; rw [if_neg (by omega)]
    subst hv
    have hAd : decide (s < -64) = false := by simpa using hA
    have hBd : decide (255 < s) = false := by simpa using hB
    clear hsv
    go_enter Try.func12, Try.ntmps12
    go_wp2_with fail
    refine hL.mono ?_
    rintro e w1 ⟨rfl, rfl⟩
    clear hL
    go_wp2_with fail
    refine Zs.region (S := fun y => y.cell? ⟨b, 0, none⟩ = some (.slice (some ⟨g, 0, none⟩) nl cap)) 14 (by kernel_rfl) ?_
    refine Zs.pure (i := 0) (oi := ⟨some 24, _, _, _, _, _⟩) (v := ?v0) rfl (by kernel_rfl) (by kernel_rfl) (by kernel_rfl) (by decide) (fun _ _ _ h => h) (Or.inl ⟨by rfl, ?hy0⟩) hHeld ?_
    case hy0 => (intro w hSw; (try dsimp only at hSw); go_simp; try with_reducible rfl)
    simp only [Act.put, List.setIfInBounds_toArray, List.set_cons_zero, List.set_cons_succ]
    refine Zs.pure (i := 1) (oi := ⟨some 25, _, _, _, _, _⟩) (v := ?v1) rfl (by kernel_rfl) (by kernel_rfl) (by kernel_rfl) (by decide) (fun _ _ _ h => h) (Or.inl ⟨by rfl, ?hy1⟩) hHeld ?_
    case hy1 => (intro w hSw; (try dsimp only at hSw); go_simp; try with_reducible rfl)
    simp only [Act.put, List.setIfInBounds_toArray, List.set_cons_zero, List.set_cons_succ]
    refine Zs.pure (i := 2) (oi := ⟨some 26, _, _, _, _, _⟩) (v := ?v2) rfl (by kernel_rfl) (by kernel_rfl) (by kernel_rfl) (by decide) (fun _ _ _ h => h) (Or.inl ⟨by rfl, ?hy2⟩) hHeld ?_
    case hy2 => (intro w hSw; (try dsimp only at hSw); go_simp; try with_reducible rfl)
    simp only [Act.put, List.setIfInBounds_toArray, List.set_cons_zero, List.set_cons_succ]
    refine Zs.takeC (f := 30) (i := 3) (oi := ⟨some 27, _, _, _, _, _⟩) (v := ?v3) rfl (by kernel_rfl) (by kernel_rfl) (by kernel_rfl) (by decide) (by kernel_rfl) (by kernel_rfl) (by kernel_rfl) (fun _ _ _ h => h) (Or.inl ⟨by rfl, ?hy3⟩) hHeld ?_
    case hy3 => (intro w hSw; (try dsimp only at hSw); go_simp; try with_reducible rfl)
    simp only [Act.put, List.setIfInBounds_toArray, List.set_cons_zero, List.set_cons_succ]
    refine Zs.pure (i := 4) (oi := ⟨some 28, _, _, _, _, _⟩) (v := ?v4) rfl (by kernel_rfl) (by kernel_rfl) (by kernel_rfl) (by decide) (fun _ _ _ h => h) (Or.inl ⟨by rfl, ?hy4⟩) hHeld ?_
    case hy4 => (intro w hSw; (try dsimp only at hSw); go_simp; try with_reducible rfl)
    simp only [Act.put, List.setIfInBounds_toArray, List.set_cons_zero, List.set_cons_succ]
    refine Zs.pure (i := 5) (oi := ⟨some 29, _, _, _, _, _⟩) (v := ?v5) rfl (by kernel_rfl) (by kernel_rfl) (by kernel_rfl) (by decide) (fun _ _ _ h => h) (Or.inl ⟨by rfl, ?hy5⟩) hHeld ?_
    case hy5 => (intro w hSw; (try dsimp only at hSw); go_simp; try with_reducible rfl)
    simp only [Act.put, List.setIfInBounds_toArray, List.set_cons_zero, List.set_cons_succ]
    refine Zs.pure (i := 6) (oi := ⟨some 30, _, _, _, _, _⟩) (v := ?v6) rfl (by kernel_rfl) (by kernel_rfl) (by kernel_rfl) (by decide) (fun _ _ _ h => h) (Or.inl ⟨by rfl, ?hy6⟩) hHeld ?_
    case hy6 => (intro w hSw; (try dsimp only at hSw); go_simp; try with_reducible rfl)
    simp only [Act.put, List.setIfInBounds_toArray, List.set_cons_zero, List.set_cons_succ]
    refine Zs.pure (i := 7) (oi := ⟨some 31, _, _, _, _, _⟩) (v := ?v7) rfl (by kernel_rfl) (by kernel_rfl) (by kernel_rfl) (by decide) (fun _ _ _ h => h) (Or.inl ⟨by rfl, ?hy7⟩) hHeld ?_
    case hy7 => (intro w hSw; (try dsimp only at hSw); go_simp; try with_reducible rfl)
    simp only [Act.put, List.setIfInBounds_toArray, List.set_cons_zero, List.set_cons_succ]
    refine Zs.takeC (f := 30) (i := 8) (oi := ⟨some 32, _, _, _, _, _⟩) (v := ?v8) rfl (by kernel_rfl) (by kernel_rfl) (by kernel_rfl) (by decide) (by kernel_rfl) (by kernel_rfl) (by kernel_rfl) (fun _ _ _ h => h) (Or.inl ⟨by rfl, ?hy8⟩) hHeld ?_
    case hy8 => (intro w hSw; (try dsimp only at hSw); go_simp; try with_reducible rfl)
    simp only [Act.put, List.setIfInBounds_toArray, List.set_cons_zero, List.set_cons_succ]
    refine Zs.pure (i := 9) (oi := ⟨some 33, _, _, _, _, _⟩) (v := ?v9) rfl (by kernel_rfl) (by kernel_rfl) (by kernel_rfl) (by decide) (fun _ _ _ h => h) (Or.inl ⟨by rfl, ?hy9⟩) hHeld ?_
    case hy9 => (intro w hSw; (try dsimp only at hSw); go_simp; try with_reducible rfl)
    simp only [Act.put, List.setIfInBounds_toArray, List.set_cons_zero, List.set_cons_succ]
    refine Zs.pure (i := 10) (oi := ⟨some 34, _, _, _, _, _⟩) (v := .int .i64 s) rfl (by kernel_rfl) (by kernel_rfl) (by kernel_rfl) (by decide) (fun _ _ _ h => h) (Or.inl ⟨by rfl, ?hy10⟩) hHeld ?_
    case hy10 => (intro w hSw; (try dsimp only at hSw); go_simp; try with_reducible rfl)
    simp only [Act.put, List.setIfInBounds_toArray, List.set_cons_zero, List.set_cons_succ]
    refine Zs.pure (i := 11) (oi := ⟨some 35, _, _, _, _, _⟩) (v := ?v11) rfl (by kernel_rfl) (by kernel_rfl) (by kernel_rfl) (by decide) (fun _ _ _ h => h) (Or.inl ⟨by rfl, ?hy11⟩) hHeld ?_
    case hy11 => (intro w hSw; (try dsimp only at hSw); go_simp; try with_reducible rfl)
    simp only [Act.put, List.setIfInBounds_toArray, List.set_cons_zero, List.set_cons_succ]
    refine Zs.pure (i := 12) (oi := ⟨some 36, _, _, _, _, _⟩) (v := ?v12) rfl (by kernel_rfl) (by kernel_rfl) (by kernel_rfl) (by decide) (fun _ _ _ h => h) (Or.inl ⟨by rfl, ?hy12⟩) hHeld ?_
    case hy12 => (intro w hSw; (try dsimp only at hSw); go_simp; try with_reducible rfl)
    simp only [Act.put, List.setIfInBounds_toArray, List.set_cons_zero, List.set_cons_succ]
    refine Zs.pure (i := 13) (oi := ⟨some 37, _, _, _, _, _⟩) (v := ?v13) rfl (by kernel_rfl) (by kernel_rfl) (by kernel_rfl) (by decide) (fun _ _ _ h => h) (Or.inl ⟨by rfl, ?hy13⟩) hHeld ?_
    case hy13 => (intro w hSw; (try dsimp only at hSw); go_simp; try with_reducible rfl)
    simp only [Act.put, List.setIfInBounds_toArray, List.set_cons_zero, List.set_cons_succ]
    refine Zs.one (i := 14) (oi := ⟨none, _, _, _, _, _⟩) (by kernel_rfl) rfl (fun K hK => ?_)
    go_simp
    try rw [hW1]
    refine hK.out _ _ (fun q => absurd q (by decide)) ?_
    clear hK K hHeld
    refine Zs.late (i := 15) (oi := ⟨some 38, _, _, _, _, _⟩) (v := ?v15) rfl (by kernel_rfl) (by kernel_rfl) (by kernel_rfl) (by decide) (fun _ _ _ h => h) (Or.inl ⟨by rfl, ?hy15⟩) (by kernel_rfl) ?_
    case hy15 => (intro w hSw; (try dsimp only at hSw); go_simp; try with_reducible rfl)
    simp only [Act.put, List.setIfInBounds_toArray, List.set_cons_zero, List.set_cons_succ]
    refine Zs.late (i := 16) (oi := ⟨some 39, _, _, _, _, _⟩) (v := ?v16) rfl (by kernel_rfl) (by kernel_rfl) (by kernel_rfl) (by decide) (fun _ _ _ h => h) (Or.inl ⟨by rfl, ?hy16⟩) (by kernel_rfl) ?_
    case hy16 => (intro w hSw; (try dsimp only at hSw); go_simp; try with_reducible rfl)
    simp only [Act.put, List.setIfInBounds_toArray, List.set_cons_zero, List.set_cons_succ]
    refine Zs.late (i := 17) (oi := ⟨some 40, _, _, _, _, _⟩) (v := ?v17) rfl (by kernel_rfl) (by kernel_rfl) (by kernel_rfl) (by decide) (fun _ _ _ h => h) (Or.inl ⟨by rfl, ?hy17⟩) (by kernel_rfl) ?_
    case hy17 => (intro w hSw; (try dsimp only at hSw); go_simp; try with_reducible rfl)
    simp only [Act.put, List.setIfInBounds_toArray, List.set_cons_zero, List.set_cons_succ]
    refine Zs.one (i := 18) (oi := ⟨none, _, _, _, _, _⟩) (by kernel_rfl) rfl (fun K hK => ?_)
    go_simp
    try rw [hW12]
    refine hK.out _ _ (fun q => absurd q (by decide)) ?_
    clear hK K
    refine Zs.done (by kernel_rfl) ?_ _
    clear d3 f3 d4 f4 c0 hW1 hW12
    go_wp2_with fail
    go_loopw [8] (fun v8 wr => ∃ j : Nat, j ≤ nl ∧ v8 = .int .i64 j ∧ Hid (RO wr b g cap room last (orf k l1 j) ∧ Mv (fun k => k = b ∨ k = g) w1 wr)) (fun v8 _ => nl - (intOf v8).toNat)
    case atStart => exact ⟨0, by omega, rfl, st2⟩
    case round =>
      clear st2
      obtain ⟨j, hj, rfl, hI⟩ := hrel
      have c0 := hI.out.1.c0
      rw [orf_len, hl1H.out] at c0
      have hlen := hlenH.out
      by_cases hlt : j < nl
      · have hltI : (j : Int) < (nl : Int) := by omega
        obtain ⟨x, hx⟩ : ∃ x, l1[j]? = some x := ⟨_, List.getElem?_eq_getElem (by rw [hl1H.out]; exact hlt)⟩
        have hx2 := orf_at (k := k) hx
        have q1 := hI.out.1.at hx2 (q := 1) rfl
        have f1 := hI.out.1.frz (j * 8 + 1)
        by_cases hpk : x.par = k
        · have e1 : Hid (RO (wr.setCell ⟨g, j * 8 + 1, none⟩ (.int .i64 1)) b g cap room last (orf k l1 (j + 1)) ∧ Mv (fun k => k = b ∨ k = g) w1 (wr.setCell ⟨g, j * 8 + 1, none⟩ (.int .i64 1))) := by
            have := hI.out.1.set (q := 1) (p' := orph k x) (v := .int .i64 1) hx2 (by decide) (by unfold orph; rw [if_pos hpk]; rfl)
            rw [orf_set hx] at this
            exact ⟨this, hI.out.2.setc (p := ⟨g, j * 8 + 1, none⟩) (.inl (.inr rfl)) _⟩
          rw [hpk] at q1
          clear hI hx hx2
          go_wp2_with fail
          exact ⟨⟨j + 1, by omega, by go_num, e1⟩, by simp [intOf]; omega⟩
        · have e1 : Hid (RO wr b g cap room last (orf k l1 (j + 1)) ∧ Mv (fun k => k = b ∨ k = g) w1 wr) := by
            refine ⟨?_, hI.out.2⟩
            rw [← orf_set hx]
            have ho : orph k x = x := by unfold orph; rw [if_neg hpk]
            rw [ho, set_same hx2]
            exact hI.out.1
          obtain ⟨xp, hxp⟩ : ∃ xp, x.par = xp := ⟨_, rfl⟩
          rw [hxp] at q1 hpk
          have hpb : (xp == k) = false := by simpa using hpk
          clear hI hx hx2 hxp
          go_wp2_with fail
          exact ⟨⟨j + 1, by omega, by go_num, e1⟩, by simp [intOf]; omega⟩
      · have hltI : decide ((j : Int) < (nl : Int)) = false := by simp; omega
        have fin : Hid (Rg b g w1 g cap room last (l1.map (orph k)) wr) := by
          have h7 := hI.out.1
          rw [show j = l1.length by rw [hl1H.out]; omega, orf_all] at h7
          exact ⟨h7, hI.out.2, .inl rfl⟩
        clear hI
        go_wp2_with fail
        go_ret
        exact ⟨rfl, _, _, fin.out⟩
end Go.Proofs.Ytcikjnifkoagpaa
