/- All, with the law's closure as its taker: every group is held against the reference's. -/
import Derived.Test.YtfmceioiglmepaaGU
import Derived.Test.YtfmceioiglmepaaRR
namespace Go.Proofs.Ytfmceioiglmepaa
open Go.RowKit Go.Shelf Go.Lib
attribute [local go_sem] Oper.semAt_some
/-- How far the closure has come. -/
def AJ (A B : Nat) (l : Gl) (rest : List G) (E : Nat → Prop) (W : World) : Prop := (∀ j, E j ↔ (j = A ∨ j = B)) ∧ ∃ k : Nat, rest = l.drop k ∧ k ≤ l.length ∧ Cl A (.int .i64 k) W ∧ Cl B (.bool true) W
def AX (_ : Code) (_ : Nat → Prop) (_ : World) : Prop := False
theorem AX.ter (b : Nat) : Ter b AX := ⟨fun _ _ _ _ h _ => h.elim, fun _ _ _ h => h.elim⟩
theorem AJ.ter (b A B : Nat) (l : Gl) : Ter b (AJ A B l) :=
  ⟨fun s E W V h m => by
    obtain ⟨hE, k, h1, h2, h3, h4⟩ := h
    exact ⟨hE, k, h1, h2, h3.mv m (fun q => q.1 ((hE A).2 (.inl rfl))), h4.mv m (fun q => q.1 ((hE B).2 (.inr rfl)))⟩,
   fun s E W h k hk => by
    obtain ⟨hE, _, _, _, h3, h4⟩ := h
    rcases (hE k).1 hk with rfl | rfl
    · exact h3.lt
    · exact h4.lt⟩
set_option maxRecDepth 100000 in
set_option maxHeartbeats 4000000 in
theorem all1_any (S : St) (R : Rt) (A B C pt : Nat) (w : World) (h : Gs w S) (r : Rs w R) (hrel : Rel S.l R.l) (hs : srtG S.l) (hc : S.c ≤ 900000) (hl : R.l.length ≤ 1000) (ct : w.cell? ⟨pt, 0, none⟩ = some (.pointer (some ⟨S.bt, 0, none⟩))) (cA : Cl A (.int .i64 0) w) (cB : Cl B (.bool true) w) (cC : w.cell? ⟨C, 0, none⟩ = some (.pointer (some ⟨R.b, 0, none⟩))) (hAB : A ≠ B)
    (dS : ∀ k, hasB S k → k ≠ A ∧ k ≠ B) (dR : ∀ k, hasR R k → k ≠ A ∧ k ≠ B) (dP : ∀ x ∈ R.l, ∀ k, nb x.v = some k → k ≠ A ∧ k ≠ B) (dC : C ≠ A ∧ C ≠ B) :
    Calls Try.prog 35 #[.func (.func 24) #[] #[.pointer (some ⟨B, 0, none⟩), .pointer (some ⟨A, 0, none⟩), .pointer (some ⟨C, 0, none⟩)], .pointer (some ⟨pt, 0, none⟩)] w fun e w' => (∃ v, e = .returned v) ∧ Cl A (.int .i64 R.l.length) w' ∧ Cl B (.bool true) w' ∧ Mv (fun j => j = A ∨ j = B) w w' := by
  have hlen := hrel.len
  obtain ⟨W0, hW0⟩ : ∃ W0, w.alloc (.cells #[.func (.func 24) #[] #[.pointer (some ⟨B, 0, none⟩), .pointer (some ⟨A, 0, none⟩), .pointer (some ⟨C, 0, none⟩)]] 50) = W0 := ⟨_, rfl⟩
  have m0 : ∀ F : Nat → Prop, Mv F w W0 := fun F => by rw [← hW0]; exact Mv.alloc _ _ _
  have hs0 : W0.heap.size = w.heap.size + 1 := by rw [← hW0]; simp
  have cY0 : W0.cell? ⟨w.heap.size, 0, none⟩ = some (.func (.func 24) #[] #[.pointer (some ⟨B, 0, none⟩), .pointer (some ⟨A, 0, none⟩), .pointer (some ⟨C, 0, none⟩)]) := by rw [← hW0]; exact cell_at rfl rfl
  have ct0 : W0.cell? ⟨pt, 0, none⟩ = some (.pointer (some ⟨S.bt, 0, none⟩)) := (m0 (fun _ => False)).cell (a := ⟨pt, 0, none⟩) (fun h => h) ct
  have hSet := hidP (sets_any S.bt W0)
  obtain ⟨Y, hY⟩ : ∃ Y, w.heap.size = Y := ⟨_, rfl⟩
  have hYH := hidP hY
  have hs0H := hidP hs0
  have cY0H := hidP cY0
  have m0H := hidP m0
  have hh := hidP (And.intro h (And.intro r (And.intro cA (And.intro cB cC))))
  have hd := hidP (And.intro dS (And.intro dR (And.intro dP dC)))
  have hABH := hidP hAB
  have hrelH := hidP (And.intro hrel (And.intro hs (And.intro hc (And.intro hl hlen))))
  clear h r hrel hs hc hl ct cA cB cC hAB dS dR dP dC hlen hs0 cY0 m0 hY
  refine (callsIn_wide (n := 5)).1 ?_
  refine callsIn_of_wp_marks Try.func35 rfl trivial ?_ rfl
  simp only [Try.ntmps35, List.size_toArray, List.length_cons, List.length_nil, Nat.reduceAdd, Nat.reduceSub, Array.replicate_succ, Array.replicate_zero, List.push_toArray, List.append_toArray, List.nil_append, List.cons_append]
  gi_wp2_with (rw [hW0])
  refine ⟨trivial, (callsIn_wide.2 hSet.out).mono ?_⟩
  rintro e W1 ⟨rfl, hW1⟩
  have m1 : ∀ F : Nat → Prop, Mv F W0 W1 := fun F => by rw [hW1]; exact Mv.alloc _ _ _
  have hs1 : W1.heap.size = W0.heap.size + 1 := by rw [hW1]; simp
  have cT1 : W1.cell? ⟨W0.heap.size, 0, none⟩ = some (.pointer (some ⟨S.bt, 0, none⟩)) := by rw [hW1]; exact cell_at rfl rfl
  have hs0 := hs0H.out
  have hYe := hYH.out
  have m01 : ∀ F : Nat → Prop, Mv F w W1 := fun F => (m0H.out F).trans' (m1 F)
  have cY1 : W1.cell? ⟨Y, 0, none⟩ = some (.func (.func 24) #[] #[.pointer (some ⟨B, 0, none⟩), .pointer (some ⟨A, 0, none⟩), .pointer (some ⟨C, 0, none⟩)]) := by rw [← hYe]; exact (m1 (fun _ => False)).cell (a := ⟨w.heap.size, 0, none⟩) (fun h => h) cY0H.out
  obtain ⟨g0, r0, cA0, cB0, cC0⟩ := hh.out
  obtain ⟨dS, dR, dP, dC⟩ := hd.out
  obtain ⟨hrel, hsrt, hc9, hl9, hlen⟩ := hrelH.out
  have h1 : Gs W1 S := g0.mv (m01 (fun _ => False)) (fun _ _ h => h)
  have r1 : Rs W1 R := r0.mv (m01 (fun _ => False)) (fun _ _ h => h) (fun _ _ _ _ h => h)
  have cA1 : Cl A (.int .i64 0) W1 := cA0.mv (m01 (fun _ => False)) (fun h => h)
  have cB1 : Cl B (.bool true) W1 := cB0.mv (m01 (fun _ => False)) (fun h => h)
  have cC1 : W1.cell? ⟨C, 0, none⟩ = some (.pointer (some ⟨R.b, 0, none⟩)) := (m01 (fun _ => False)).cell (a := ⟨C, 0, none⟩) (fun h => h) cC0
  have hA0 := cA0.lt
  have hB0 := cB0.lt
  obtain ⟨E, hE⟩ : ∃ E : Nat → Prop, ∀ j, E j ↔ (j = A ∨ j = B) := ⟨_, fun _ => Iff.rfl⟩
  have nE : ∀ {k}, k ≠ A ∧ k ≠ B → ¬ E k := fun {k} q e => by rcases (hE k).1 e with t | t; exact q.1 t; exact q.2 t
  have hrow := sets_row S W0.heap.size E W1 h1 hsrt hc9 (by omega) cT1 (nE ⟨by omega, by omega⟩) (fun k hk => nE (dS k hk))
  rw [show W0.heap.size = Y + 1 by omega] at hrow
  have h0I : AJ A B S.l S.l E W1 := ⟨hE, 0, rfl, by omega, cA1, cB1⟩
  have tI := AJ.ter W1.heap.size A B S.l
  have hAll : Hid (∀ U, Mv E W1 U → Gs U S ∧ Rs U R ∧ U.cell? ⟨C, 0, none⟩ = some (.pointer (some ⟨R.b, 0, none⟩)) ∧ U.cell? ⟨Y, 0, none⟩ = some (.func (.func 24) #[] #[.pointer (some ⟨B, 0, none⟩), .pointer (some ⟨A, 0, none⟩), .pointer (some ⟨C, 0, none⟩)])) := fun U m =>
    ⟨h1.mv m (fun k hk => nE (dS k hk)), r1.mv m (fun k hk => nE (dR k hk)) (fun x hx k hk => nE (dP x hx k hk)), m.cell (a := ⟨C, 0, none⟩) (nE dC) cC1, m.cell (a := ⟨Y, 0, none⟩) (nE (k := Y) ⟨by omega, by omega⟩) cY1⟩
  have hfinM : Hid (∀ U, Mv E W1 U → Mv (fun j => j = A ∨ j = B) w U) := fun U m => (m01 _).trans' (m.mono (fun k _ e => (hE k).1 e))
  have hYn := hidP (And.intro (show Y ≠ A by omega) (show Y ≠ B by omega))
  have hY1 : Hid (Y < W1.heap.size ∧ w.heap.size ≤ W1.heap.size) := ⟨by omega, by omega⟩
  clear hW1 hW0 hSet m1 m01 h1 r1 cA1 cB1 cC1 cY1 g0 r0 cA0 cB0 cC0 hA0 hB0 cT1 ct0 hh hd cY0H m0H hs1
  gi_wp2_with fail
  clear hs0 hYe
  refine loop_out (gf := 42) (lb := #[.pointer (some ⟨Y + 1, 0, none⟩)]) rfl (enters_of Try.func42 (by kernel_rfl) rfl) hrow (fun _ => rfl) (AJ A B S.l) AX tI (AX.ter _) h0I ?round ?done ?stop
  case stop => rintro D c' E2 U _ _ _ _ _ h; exact h.elim
  case round =>
    rintro l1 hl1 x rest E2 U hi hm hgr hEl hrec
    simp only [encG]
    gi_wp2
    refine ⟨⟨Mv.refl _ _, trivial⟩, fun U2 tw => ?_⟩
    obtain ⟨⟨hE2, k, hk1, hk2, hcA, hcB⟩, hm2⟩ := tw.go tI hi (Mv.refl _ _) hm (Nat.le_refl _) (by omega) hEl
    have hx : S.l[k]? = some x := by
      have := congrArg List.head? hk1
      rw [List.head?_drop] at this
      exact this.symm
    have hrest : rest = S.l.drop (k + 1) := by
      have := congrArg List.tail hk1
      simpa [List.tail_drop] using this
    obtain ⟨y, hy, hyn, hyp⟩ := hrel.to hx
    obtain ⟨hG, hR, hC, hYc⟩ := hAll.out U2 hm2
    have hmem := List.mem_of_getElem? hx
    have hkl : k + 1 ≤ S.l.length := (List.getElem?_eq_some_iff.1 hx).1
    have hris := hidP (fun (W : World) (b : Below U2.heap.size U2 W) => rising_any x.blk x.pids W ((hG.below b).mem x hmem) (hG.wf.nd x hmem) (by have := hG.pl x hmem; omega))
    have hpl := hidP (fun (W : World) (v : Value) (b : Below U2.heap.size U2 W) (hv : IR W v x.pids) => plays1_any R A B C k y v W (hR.below b) hy (by rw [← hyp]; exact hv) hl9 (by rw [← hyp]; have := hG.pl x hmem; omega) (hcA.mv (E := fun _ => False) (Mv.below b) (fun h => h)) (hcB.mv (E := fun _ => False) (Mv.below b) (fun h => h)) ((Mv.below (E := fun _ => False) b).cell (a := ⟨C, 0, none⟩) (fun h => h) hC) hABH.out)
    rw [← hyn] at hpl
    have hE2H := hidP hE2
    have hrestH := hidP hrest
    have hklH := hidP hkl
    have hd2 : Hid (Below U2.heap.size U2 U2.drew) := (Below.refl _ _).drew
    have hYd : Hid (∀ W, Below U2.heap.size U2 W → W.cell? ⟨Y, 0, none⟩ = some (.func (.func 24) #[] #[.pointer (some ⟨B, 0, none⟩), .pointer (some ⟨A, 0, none⟩), .pointer (some ⟨C, 0, none⟩)])) := fun W b => (Mv.below (E := fun _ => False) b).cell (a := ⟨Y, 0, none⟩) (fun h => h) hYc
    clear tw hi hm hrec hgr hEl hk1 hk2 hcA hcB hm2 hx hrest hy hyn hyp hG hR hC hmem hkl hE2 hrow h0I tI hAll
    gi_wp2_with fail
    refine region_round (S := fun W => W.cell? ⟨Y, 0, none⟩ = some (.func (.func 24) #[] #[.pointer (some ⟨B, 0, none⟩), .pointer (some ⟨A, 0, none⟩), .pointer (some ⟨C, 0, none⟩)])) (by kernel_rfl) (by kernel_rfl) (by rintro ⟨_, _, h⟩; exact h) (hYd.out _ hd2.out) (fun hHeld => ?_)
    refine wpAnyH_take (i := 0) (oi := ⟨some 9, _, _, _, _, _⟩) (v := ?v0) rfl (by kernel_rfl) (by kernel_rfl) (by kernel_rfl) (fun _ _ _ h => h) (Or.inl ⟨by rfl, ?hy0⟩) (by assumption) ?_
    case hy0 => (intro w hSw; (try dsimp only at hSw); go_simp; try with_reducible rfl)
    simp only [Act.put, List.setIfInBounds_toArray, List.set_cons_zero, List.set_cons_succ]
    refine wpAnyH_take (i := 1) (oi := ⟨some 10, _, _, _, _, _⟩) (v := ?v1) rfl (by kernel_rfl) (by kernel_rfl) (by kernel_rfl) (fun _ _ _ h => h) (Or.inl ⟨by rfl, ?hy1⟩) (by assumption) ?_
    case hy1 => (intro w hSw; (try dsimp only at hSw); go_simp; try with_reducible rfl)
    simp only [Act.put, List.setIfInBounds_toArray, List.set_cons_zero, List.set_cons_succ]
    refine wpAnyH_take (i := 2) (oi := ⟨some 11, _, _, _, _, _⟩) (v := ?v2) rfl (by kernel_rfl) (by kernel_rfl) (by kernel_rfl) (fun _ _ _ h => h) (Or.inl ⟨by rfl, ?hy2⟩) (by assumption) ?_
    case hy2 => (intro w hSw; (try dsimp only at hSw); go_simp; try with_reducible rfl)
    simp only [Act.put, List.setIfInBounds_toArray, List.set_cons_zero, List.set_cons_succ]
    refine wpAnyH_ready (rs := [3]) (by kernel_rfl) (by simp) ?_
    refine AllReadyH.cons (o := ⟨some 12, _, _, _, _, _⟩) rfl (fun K hK => ?_) AllReadyH.nil
    go_simp
    refine (hris.out _ hd2.out).mono ?_
    rintro e W3 ⟨v, rfl, hv3, _, hb3⟩
    have hb3' := hidP (hd2.out.trans (hb3.mono (Nat.le_refl _)))
    have hpl3 := hidP (hpl.out W3 v hb3'.out hv3)
    have hY3 := hYd.out W3 hb3'.out
    clear hv3 hb3 hris hpl
    go_wp2_with fail
    refine hK.out _ _ hY3 (fun _ => ?_)
    clear hK K
    try simp only [Act.put, List.setIfInBounds_toArray, List.set_cons_zero, List.set_cons_succ]
    refine wpAnyH_ready (rs := [4]) (by kernel_rfl) (by simp) ?_
    refine AllReadyH.cons (o := ⟨some 13, _, _, _, _, _⟩) rfl (fun K hK => ?_) AllReadyH.nil
    go_simp
    refine hpl3.out.mono ?_
    rintro e W4 ⟨rfl, hA4, hB4, m4⟩
    have hM4 := hidP ((Mv.below (E := fun j => j = A ∨ j = B) hb3'.out).trans' m4)
    have hY4 : W4.cell? ⟨Y, 0, none⟩ = some (.func (.func 24) #[] #[.pointer (some ⟨B, 0, none⟩), .pointer (some ⟨A, 0, none⟩), .pointer (some ⟨C, 0, none⟩)]) := m4.cell (a := ⟨Y, 0, none⟩) (fun e => by rcases e with q | q; exact hYn.out.1 q; exact hYn.out.2 q) hY3
    have hcl := hidP (And.intro hA4 hB4)
    clear hA4 hB4 m4 hpl3
    go_wp2_with fail
    refine hK.out _ _ hY4 (fun _ => ?_)
    clear hK K hY4
    try simp only [Act.put, List.setIfInBounds_toArray, List.set_cons_zero, List.set_cons_succ]
    refine wpAnyH_take (i := 5) (oi := ⟨some 14, _, _, _, _, _⟩) (v := .bool false) rfl (by kernel_rfl) (by kernel_rfl) (by kernel_rfl) (fun _ _ _ h => h) (Or.inl ⟨by rfl, ?hy5⟩) (by assumption) ?_
    case hy5 => (intro w hSw; (try dsimp only at hSw); go_simp; try with_reducible rfl)
    simp only [Act.put, List.setIfInBounds_toArray, List.set_cons_zero, List.set_cons_succ]
    refine wpAnyH_done (by kernel_rfl) ?_ _
    gi_wp2_with fail
    exact ⟨hM4.out.mono (fun k _ e => (hE2H.out k).2 e), E2, Gr.refl _ _, hE2H.out, k + 1, hrestH.out, hklH.out, hcl.out.1, hcl.out.2⟩
  case done =>
    rintro D E2 U hD hK hnD hm hgr ⟨hE2, k, hk1, hk2, hcA, hcB⟩
    have hkn : k = S.l.length := by
      have := congrArg List.length hk1
      simp at this
      omega
    have mP : Mv (fun k => k = D) U (U.putObj D (.deferred none)) := Mv.put (E := fun k => k = D) rfl _
    have hDA : A ≠ D := fun e => hnD ((hE2 D).2 (.inl e.symm))
    have hDB : B ≠ D := fun e => hnD ((hE2 D).2 (.inr e.symm))
    have hfin : Hid (Cl A (.int .i64 R.l.length) (U.putObj D (.deferred none)) ∧ Cl B (.bool true) (U.putObj D (.deferred none)) ∧ Mv (fun j => j = A ∨ j = B) w (U.putObj D (.deferred none))) := by
      refine ⟨?_, hcB.mv mP hDB, (hfinM.out U hm).put_new (l := D) (by have := hY1.out.2; omega) _⟩
      rw [← hlen, ← hkn]
      exact hcA.mv mP hDA
    have hKH := hidP hK
    clear hcA hcB hE2 hk1 hk2 hm hgr hnD mP hDA hDB
    gi_wp2_with fail
    refine ⟨by simp, .inl ⟨_, _, rfl, run_takeDeferred hKH.out, ?_⟩⟩
    exact ⟨.tuple #[], by simp [results, Try.results35, go_sem], ⟨_, rfl⟩, hfin.out⟩
end Go.Proofs.Ytfmceioiglmepaa
