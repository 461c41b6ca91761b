/- The reference's Fork. -/
import Derived.Test.YtcikjnifkoagpaaRQ3
import Derived.Test.YtcikjnifkoagpaaRZ2
namespace Go.Proofs.Ytcikjnifkoagpaa
open Go.RowKit Go.Shelf Go.Lib
/-- Taken ahead, when z has come. -/
theorem Zs.late {P : Program} {ops : Array Oper} {Q : Exit → Act → World → Prop} {md : Region.Mode} {S : World → Prop} {z : Nat} {i : Nat} {oi : Oper} {v : Value} {n : Nat} {L : Array Bool} {a : Act} {w : World} (hi : ops[i]? = some oi) (hs : Region.noSelect ops = true) (hf : Region.free md ops L i = true) (hr : (Region.ready md ops L).contains i = true) (hiz : i ≠ z)
    (hQ : ∀ c a w, Q (.panic c) (a.put oi.dst v) w → Q (.panic c) a w) (hy : YieldsIf P ops (fun _ => True) oi v a) (hLz : L.getD z true = true) (h : Zs P md ops Q S z n (L.setIfInBounds i true) (a.put oi.dst v) w) : Zs P md ops Q S z (n + 1) L a w :=
  Zs.ahead (T := fun _ => True) hi hs hQ hiz (fun _ _ => trivial) n L a w (.inr (fun _ => trivial)) (Region.free_spec hi hf) (by simpa using hr) hy (fun q => by rw [hLz] at q; cases q) h
theorem lv_lk (l : Ps) (k : Int) : (lvP l k = -1 ∧ ((lk l k).isNone = true ∨ ∃ p, lk l k = some p ∧ p.zom = true)) ∨ ∃ (i : Nat) (p : Pr), l[i]? = some p ∧ lvP l k = i ∧ lk l k = some p ∧ p.zom = false := by
  rcases ixP_cases l k with ⟨e1, e2⟩ | ⟨i, p, hp, hk, e1, e2⟩
  · left
    refine ⟨e2, .inl ?_⟩
    rcases ixP_lk l k with ⟨_, e3⟩ | ⟨i, p, _, e3, _⟩
    · rw [e3]; rfl
    · rw [e1] at e3; omega
  · rcases ixP_lk l k with ⟨e3, _⟩ | ⟨i', p', hp', e3, e4⟩
    · rw [e1] at e3; omega
    · have : i' = i := by rw [e1] at e3; omega
      subst this
      rw [hp] at hp'
      cases hp'
      cases hz : p.zom with
      | true => left; rw [hz] at e2; exact ⟨e2, .inr ⟨p, e4, hz⟩⟩
      | false => right; rw [hz] at e2; exact ⟨i', p, hp, e2, e4, hz⟩
def rfkP (room last : Int) (l : Ps) (k : Int) : Sp :=
  match lk l k with
  | some p => if p.zom = false ∧ k ≠ 1 ∧ p.kill = false then rspP room last l k p.grp p.cmd else ⟨0, 80, last, l⟩
  | none => ⟨0, 80, last, l⟩
set_option maxRecDepth 100000 in
set_option maxHeartbeats 4000000 in
theorem rfork_any {b g cap : Nat} {room last : Int} {l : Ps} (k : Int) (w : World) (h : RO w b g cap room last l) (hl : l.length < 900) (h0 : 0 ≤ last) (h1 : last ≤ 1000000) :
    Calls Try.prog 10 #[.pointer (some ⟨b, 0, none⟩), .int .i64 k] w fun e w' => e = .returned (.tuple #[.int .i64 (rfkP room last l k).n, .int .i64 (rfkP room last l k).e]) ∧ ∃ g' cap', Rg b g w g' cap' room (rfkP room last l k).last (rfkP room last l k).l w' := by
  have hL := rlives_any k w h.rt
  have stay : Hid (Rg b g w g cap room last l w) := ⟨h, Mv.refl _ _, .inl rfl⟩
  rcases lv_lk l k with ⟨e1, e2⟩ | ⟨i, p, hp, e1, e2, hz⟩
  · have hF : rfkP room last l k = ⟨0, 80, last, l⟩ := by
      unfold rfkP
      rcases e2 with e2 | ⟨p, e2, hz⟩
      · cases e3 : lk l k with
        | none => rfl
        | some p => rw [e3] at e2; cases e2
      · rw [e2]
        simp only
        rw [if_neg (fun q => by rw [hz] at q; cases q.1)]
    rw [hF]
    rw [e1] at hL
    clear h hF e1 e2
    go_enter Try.func10, Try.ntmps10
    go_wp2_with fail
    refine hL.mono ?_
    rintro e w1 ⟨rfl, rfl⟩
    go_wp2_with fail
    go_ret2
    exact ⟨rfl, _, _, stay.out⟩
  rw [e1] at hL
  have hid : decide ((i : Int) < 0) = false := by simp
  by_cases hk1 : k = 1
  · have hF : rfkP room last l k = ⟨0, 80, last, l⟩ := by
      unfold rfkP
      rw [e2]
      simp only
      rw [if_neg (fun q => q.2.1 hk1)]
    rw [hF]
    subst hk1
    clear h hF e1 e2
    go_enter Try.func10, Try.ntmps10
    go_wp2_with fail
    refine hL.mono ?_
    rintro e w1 ⟨rfl, rfl⟩
    go_wp2_with fail
    go_ret2
    exact ⟨rfl, _, _, stay.out⟩
  have hk1b : (k == 1) = false := by simpa using hk1
  have c0 := h.c0
  have q7 := h.at hp (q := 7) rfl
  obtain ⟨nl, hnl⟩ : ∃ nl, l.length = nl := ⟨_, rfl⟩
  have hlen := h.len
  rw [hnl] at c0 hlen
  have hi : (i : Int) < (nl : Int) := by have := (List.getElem?_eq_some_iff.1 hp).1; omega
  cases hkl : p.kill with
  | true =>
    have hF : rfkP room last l k = ⟨0, 80, last, l⟩ := by
      unfold rfkP
      rw [e2]
      simp only
      rw [if_neg (fun q => by rw [hkl] at q; cases q.2.2)]
    rw [hF]
    rw [hkl] at q7
    clear h hF e1 e2 hp hnl
    go_enter Try.func10, Try.ntmps10
    go_wp2_with fail
    refine hL.mono ?_
    rintro e w1 ⟨rfl, rfl⟩
    go_wp2_with fail
    go_ret2
    exact ⟨rfl, _, _, stay.out⟩
  | false =>
    have hF : rfkP room last l k = rspP room last l k p.grp p.cmd := by
      unfold rfkP
      rw [e2]
      simp only
      rw [if_pos ⟨hz, hk1, hkl⟩]
    rw [hF]
    rw [hkl] at q7
    have q2 := h.at hp (q := 2) rfl
    have q5 := h.at hp (q := 5) rfl
    have hS := rspawn_any k p.grp p.cmd w.drew (h.below ((Below.refl _ _).drew)) hl h0 h1
    obtain ⟨R, hR⟩ : ∃ R, rspP room last l k p.grp p.cmd = R := ⟨_, rfl⟩
    rw [hR] at hS ⊢
    obtain ⟨pg, hpg⟩ : ∃ pg, p.grp = pg := ⟨_, rfl⟩
    obtain ⟨pc, hpc⟩ : ∃ pc, p.cmd = pc := ⟨_, rfl⟩
    rw [hpg] at q2 hS
    rw [hpc] at q5 hS
    obtain ⟨rn, re, rl, rp⟩ := R
    simp only at hS ⊢
    have hHeld : w.drew.cell? ⟨b, 0, none⟩ = some (.slice (some ⟨g, 0, none⟩) nl cap) ∧ w.drew.cell? ⟨g, i * 8 + 2, none⟩ = some (.string pg) ∧ w.drew.cell? ⟨g, i * 8 + 5, none⟩ = some (.string pc) := ⟨c0, q2, q5⟩
    have hSH := hidP hS
    clear h hF e1 e2 hp hnl hR hpg hpc hkl hz hS q2 q5
    go_enter Try.func10, Try.ntmps10
    go_wp2_with fail
    refine hL.mono ?_
    rintro e w1 ⟨rfl, rfl⟩
    clear hL
    go_wp2_with fail
    · refine Zs.region (S := fun y => y.cell? ⟨b, 0, none⟩ = some (.slice (some ⟨g, 0, none⟩) nl cap) ∧ y.cell? ⟨g, i * 8 + 2, none⟩ = some (.string pg) ∧ y.cell? ⟨g, i * 8 + 5, none⟩ = some (.string pc)) 20 (by kernel_rfl) ?_
      refine Zs.pure (i := 0) (oi := ⟨some 26, _, _, _, _, _⟩) (v := ?v0) rfl (by kernel_rfl) (by kernel_rfl) (by kernel_rfl) (by decide) (fun _ _ _ h => h) (Or.inl ⟨by rfl, ?hy0⟩) hHeld ?_
      case hy0 => (intro w hSw; (try dsimp only at hSw); go_simp; try with_reducible rfl)
      simp only [Act.put, List.setIfInBounds_toArray, List.set_cons_zero, List.set_cons_succ]
      refine Zs.pure (i := 1) (oi := ⟨some 27, _, _, _, _, _⟩) (v := ?v1) rfl (by kernel_rfl) (by kernel_rfl) (by kernel_rfl) (by decide) (fun _ _ _ h => h) (Or.inl ⟨by rfl, ?hy1⟩) hHeld ?_
      case hy1 => (intro w hSw; (try dsimp only at hSw); go_simp; try with_reducible rfl)
      simp only [Act.put, List.setIfInBounds_toArray, List.set_cons_zero, List.set_cons_succ]
      refine Zs.pure (i := 2) (oi := ⟨some 28, _, _, _, _, _⟩) (v := ?v2) rfl (by kernel_rfl) (by kernel_rfl) (by kernel_rfl) (by decide) (fun _ _ _ h => h) (Or.inl ⟨by rfl, ?hy2⟩) hHeld ?_
      case hy2 => (intro w hSw; (try dsimp only at hSw); go_simp; try with_reducible rfl)
      simp only [Act.put, List.setIfInBounds_toArray, List.set_cons_zero, List.set_cons_succ]
      refine Zs.pure (i := 3) (oi := ⟨some 29, _, _, _, _, _⟩) (v := ?v3) rfl (by kernel_rfl) (by kernel_rfl) (by kernel_rfl) (by decide) (fun _ _ _ h => h) (Or.inl ⟨by rfl, ?hy3⟩) hHeld ?_
      case hy3 => (intro w hSw; (try dsimp only at hSw); go_simp; try with_reducible rfl)
      simp only [Act.put, List.setIfInBounds_toArray, List.set_cons_zero, List.set_cons_succ]
      refine Zs.pure (i := 4) (oi := ⟨some 30, _, _, _, _, _⟩) (v := ?v4) rfl (by kernel_rfl) (by kernel_rfl) (by kernel_rfl) (by decide) (fun _ _ _ h => h) (Or.inl ⟨by rfl, ?hy4⟩) hHeld ?_
      case hy4 => (intro w hSw; (try dsimp only at hSw); go_simp; try with_reducible rfl)
      simp only [Act.put, List.setIfInBounds_toArray, List.set_cons_zero, List.set_cons_succ]
      refine Zs.takeC (f := 30) (i := 5) (oi := ⟨some 31, _, _, _, _, _⟩) (v := ?v5) rfl (by kernel_rfl) (by kernel_rfl) (by kernel_rfl) (by decide) (by kernel_rfl) (by kernel_rfl) (by kernel_rfl) (fun _ _ _ h => h) (Or.inl ⟨by rfl, ?hy5⟩) hHeld ?_
      case hy5 => (intro w hSw; (try dsimp only at hSw); go_simp; try with_reducible rfl)
      simp only [Act.put, List.setIfInBounds_toArray, List.set_cons_zero, List.set_cons_succ]
      refine Zs.pure (i := 6) (oi := ⟨some 32, _, _, _, _, _⟩) (v := ?v6) rfl (by kernel_rfl) (by kernel_rfl) (by kernel_rfl) (by decide) (fun _ _ _ h => h) (Or.inl ⟨by rfl, ?hy6⟩) hHeld ?_
      case hy6 => (intro w hSw; (try dsimp only at hSw); go_simp; try with_reducible rfl)
      simp only [Act.put, List.setIfInBounds_toArray, List.set_cons_zero, List.set_cons_succ]
      refine Zs.pure (i := 7) (oi := ⟨some 33, _, _, _, _, _⟩) (v := ?v7) rfl (by kernel_rfl) (by kernel_rfl) (by kernel_rfl) (by decide) (fun _ _ _ h => h) (Or.inl ⟨by rfl, ?hy7⟩) hHeld ?_
      case hy7 => (intro w hSw; (try dsimp only at hSw); go_simp; try with_reducible rfl)
      simp only [Act.put, List.setIfInBounds_toArray, List.set_cons_zero, List.set_cons_succ]
      refine Zs.pure (i := 8) (oi := ⟨some 34, _, _, _, _, _⟩) (v := ?v8) rfl (by kernel_rfl) (by kernel_rfl) (by kernel_rfl) (by decide) (fun _ _ _ h => h) (Or.inl ⟨by rfl, ?hy8⟩) hHeld ?_
      case hy8 => (intro w hSw; (try dsimp only at hSw); go_simp; try with_reducible rfl)
      simp only [Act.put, List.setIfInBounds_toArray, List.set_cons_zero, List.set_cons_succ]
      refine Zs.pure (i := 9) (oi := ⟨some 35, _, _, _, _, _⟩) (v := ?v9) rfl (by kernel_rfl) (by kernel_rfl) (by kernel_rfl) (by decide) (fun _ _ _ h => h) (Or.inl ⟨by rfl, ?hy9⟩) hHeld ?_
      case hy9 => (intro w hSw; (try dsimp only at hSw); go_simp; try with_reducible rfl)
      simp only [Act.put, List.setIfInBounds_toArray, List.set_cons_zero, List.set_cons_succ]
      refine Zs.takeC (f := 30) (i := 10) (oi := ⟨some 36, _, _, _, _, _⟩) (v := ?v10) rfl (by kernel_rfl) (by kernel_rfl) (by kernel_rfl) (by decide) (by kernel_rfl) (by kernel_rfl) (by kernel_rfl) (fun _ _ _ h => h) (Or.inl ⟨by rfl, ?hy10⟩) hHeld ?_
      case hy10 => (intro w hSw; (try dsimp only at hSw); go_simp; try with_reducible rfl)
      simp only [Act.put, List.setIfInBounds_toArray, List.set_cons_zero, List.set_cons_succ]
      refine Zs.pure (i := 11) (oi := ⟨some 37, _, _, _, _, _⟩) (v := ?v11) rfl (by kernel_rfl) (by kernel_rfl) (by kernel_rfl) (by decide) (fun _ _ _ h => h) (Or.inl ⟨by rfl, ?hy11⟩) hHeld ?_
      case hy11 => (intro w hSw; (try dsimp only at hSw); go_simp; try with_reducible rfl)
      simp only [Act.put, List.setIfInBounds_toArray, List.set_cons_zero, List.set_cons_succ]
      refine Zs.pure (i := 12) (oi := ⟨some 38, _, _, _, _, _⟩) (v := ?v12) rfl (by kernel_rfl) (by kernel_rfl) (by kernel_rfl) (by decide) (fun _ _ _ h => h) (Or.inl ⟨by rfl, ?hy12⟩) hHeld ?_
      case hy12 => (intro w hSw; (try dsimp only at hSw); go_simp; try with_reducible rfl)
      simp only [Act.put, List.setIfInBounds_toArray, List.set_cons_zero, List.set_cons_succ]
      refine Zs.pure (i := 13) (oi := ⟨some 39, _, _, _, _, _⟩) (v := ?v13) rfl (by kernel_rfl) (by kernel_rfl) (by kernel_rfl) (by decide) (fun _ _ _ h => h) (Or.inl ⟨by rfl, ?hy13⟩) hHeld ?_
      case hy13 => (intro w hSw; (try dsimp only at hSw); go_simp; try with_reducible rfl)
      simp only [Act.put, List.setIfInBounds_toArray, List.set_cons_zero, List.set_cons_succ]
      refine Zs.takeC (f := 30) (i := 14) (oi := ⟨some 40, _, _, _, _, _⟩) (v := ?v14) rfl (by kernel_rfl) (by kernel_rfl) (by kernel_rfl) (by decide) (by kernel_rfl) (by kernel_rfl) (by kernel_rfl) (fun _ _ _ h => h) (Or.inl ⟨by rfl, ?hy14⟩) hHeld ?_
      case hy14 => (intro w hSw; (try dsimp only at hSw); go_simp; try with_reducible rfl)
      simp only [Act.put, List.setIfInBounds_toArray, List.set_cons_zero, List.set_cons_succ]
      refine Zs.pure (i := 15) (oi := ⟨some 41, _, _, _, _, _⟩) (v := ?v15) rfl (by kernel_rfl) (by kernel_rfl) (by kernel_rfl) (by decide) (fun _ _ _ h => h) (Or.inl ⟨by rfl, ?hy15⟩) hHeld ?_
      case hy15 => (intro w hSw; (try dsimp only at hSw); go_simp; try with_reducible rfl)
      simp only [Act.put, List.setIfInBounds_toArray, List.set_cons_zero, List.set_cons_succ]
      refine Zs.pure (i := 16) (oi := ⟨some 42, _, _, _, _, _⟩) (v := ?v16) rfl (by kernel_rfl) (by kernel_rfl) (by kernel_rfl) (by decide) (fun _ _ _ h => h) (Or.inl ⟨by rfl, ?hy16⟩) hHeld ?_
      case hy16 => (intro w hSw; (try dsimp only at hSw); go_simp; try with_reducible rfl)
      simp only [Act.put, List.setIfInBounds_toArray, List.set_cons_zero, List.set_cons_succ]
      refine Zs.pure (i := 17) (oi := ⟨some 43, _, _, _, _, _⟩) (v := ?v17) rfl (by kernel_rfl) (by kernel_rfl) (by kernel_rfl) (by decide) (fun _ _ _ h => h) (Or.inl ⟨by rfl, ?hy17⟩) hHeld ?_
      case hy17 => (intro w hSw; (try dsimp only at hSw); go_simp; try with_reducible rfl)
      simp only [Act.put, List.setIfInBounds_toArray, List.set_cons_zero, List.set_cons_succ]
      refine Zs.pure (i := 18) (oi := ⟨some 44, _, _, _, _, _⟩) (v := ?v18) rfl (by kernel_rfl) (by kernel_rfl) (by kernel_rfl) (by decide) (fun _ _ _ h => h) (Or.inl ⟨by rfl, ?hy18⟩) hHeld ?_
      case hy18 => (intro w hSw; (try dsimp only at hSw); go_simp; try with_reducible rfl)
      simp only [Act.put, List.setIfInBounds_toArray, List.set_cons_zero, List.set_cons_succ]
      refine Zs.takeC (f := 30) (i := 19) (oi := ⟨some 45, _, _, _, _, _⟩) (v := ?v19) rfl (by kernel_rfl) (by kernel_rfl) (by kernel_rfl) (by decide) (by kernel_rfl) (by kernel_rfl) (by kernel_rfl) (fun _ _ _ h => h) (Or.inl ⟨by rfl, ?hy19⟩) hHeld ?_
      case hy19 => (intro w hSw; (try dsimp only at hSw); go_simp; try with_reducible rfl)
      simp only [Act.put, List.setIfInBounds_toArray, List.set_cons_zero, List.set_cons_succ]
      refine Zs.one (i := 20) (oi := ⟨some 46, _, _, _, _, _⟩) (by kernel_rfl) rfl (fun K hK => ?_)
      go_simp
      refine hSH.out.mono ?_
      rintro e W2 ⟨rfl, g', cap', r2⟩
      have fin : Hid (Rg b g w1 g' cap' room rl rp W2) := ⟨r2.r, (Mv.drew _ _).trans' r2.mv, r2.gr⟩
      clear r2
      go_wp2_with fail
      refine hK.out _ _ (fun q => absurd q (by decide)) ?_
      clear hK K
      try simp only [Act.put, List.setIfInBounds_toArray, List.set_cons_zero, List.set_cons_succ]
      refine Zs.late (i := 21) (oi := ⟨some 47, _, _, _, _, _⟩) (v := ?v21) rfl (by kernel_rfl) (by kernel_rfl) (by kernel_rfl) (by decide) (fun _ _ _ h => h) (Or.inl ⟨by rfl, ?hy21⟩) (by kernel_rfl) ?_
      case hy21 => (intro w hSw; (try dsimp only at hSw); go_simp; try with_reducible rfl)
      simp only [Act.put, List.setIfInBounds_toArray, List.set_cons_zero, List.set_cons_succ]
      refine Zs.late (i := 22) (oi := ⟨some 48, _, _, _, _, _⟩) (v := ?v22) rfl (by kernel_rfl) (by kernel_rfl) (by kernel_rfl) (by decide) (fun _ _ _ h => h) (Or.inl ⟨by rfl, ?hy22⟩) (by kernel_rfl) ?_
      case hy22 => (intro w hSw; (try dsimp only at hSw); go_simp; try with_reducible rfl)
      simp only [Act.put, List.setIfInBounds_toArray, List.set_cons_zero, List.set_cons_succ]
      refine Zs.late (i := 23) (oi := ⟨some 4, _, _, _, _, _⟩) (v := ?v23) rfl (by kernel_rfl) (by kernel_rfl) (by kernel_rfl) (by decide) (fun _ _ _ h => h) (Or.inl ⟨by rfl, ?hy23⟩) (by kernel_rfl) ?_
      case hy23 => (intro w hSw; (try dsimp only at hSw); go_simp; try with_reducible rfl)
      simp only [Act.put, List.setIfInBounds_toArray, List.set_cons_zero, List.set_cons_succ]
      refine Zs.late (i := 24) (oi := ⟨some 5, _, _, _, _, _⟩) (v := ?v24) rfl (by kernel_rfl) (by kernel_rfl) (by kernel_rfl) (by decide) (fun _ _ _ h => h) (Or.inl ⟨by rfl, ?hy24⟩) (by kernel_rfl) ?_
      case hy24 => (intro w hSw; (try dsimp only at hSw); go_simp; try with_reducible rfl)
      simp only [Act.put, List.setIfInBounds_toArray, List.set_cons_zero, List.set_cons_succ]
      refine Zs.done (by kernel_rfl) ?_ _
      go_wp2_with fail
      go_ret2
      exact ⟨rfl, _, _, fin.out⟩
end Go.Proofs.Ytcikjnifkoagpaa
