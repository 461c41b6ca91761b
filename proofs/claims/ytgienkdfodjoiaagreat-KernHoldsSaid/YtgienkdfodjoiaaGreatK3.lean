/- The groups' names as a row: cgroup's All, whatever members it hands on. -/
import Derived.Test.YtgienkdfodjoiaaGreatGT
import Derived.Test.YtgienkdfodjoiaaGreatIt2
import Derived.Test.YtgienkdfodjoiaaGreatRR
namespace Go.Proofs.YtgienkdfodjoiaaGreat.Cg
open Go.RowKit Go.Shelf Go.Lib
attribute [local go_sem] Oper.semAt_some
def NmR (x : G) (_ : Nat → Prop) (_ : World) (args : Array Value) : Prop := ∃ v, args = #[.string x.name, v]
theorem NmR.size : ∀ (x : G) (E : Nat → Prop) (W : World) (args : Array Value), NmR x E W args → args.size = 2 := by
  rintro x E W args ⟨v, rfl⟩; rfl
theorem NmR.anti : ∀ (x : G) (E E' : Nat → Prop) (W : World) (args : Array Value), (∀ k, E k → E' k) → NmR x E' W args → NmR x E W args := fun _ _ _ _ _ _ h => h
set_option maxRecDepth 100000 in
set_option maxHeartbeats 4000000 in
theorem all_rowN (S : St) (pt : Nat) (E : Nat → Prop) (W : World) (h : Gs W S) (hs : srtG S.l) (hc : S.c ≤ 900000) (hl : S.l.length ≤ 1000) (ct : W.cell? ⟨pt, 0, none⟩ = some (.pointer (some ⟨S.bt, 3, none⟩))) (et : ¬ E pt) (eB : ∀ k, hasB S k → ¬ E k) :
    RowR Tryz.prog 105 #[.pointer (some ⟨pt, 0, none⟩)] NmR S.l E W := by
  intro l0 J Jx E1 V m g hJ hJx hY h0
  have ctV := m.cell et ct
  have etV : ¬ E1 pt := g.free (cell_lt ct) et
  have hV : Gs V S := h.mv m eB
  have eB1 : ∀ k, hasB S k → ¬ E1 k := fun k hk => g.free (h.lt hk) (eB k hk)
  have hlow := hJ.low _ _ _ h0
  clear m g ct et h eB
  obtain ⟨W0, hW0⟩ : ∃ W0, V.alloc (.cells #[.func (.yield l0) #[] #[]] 183) = W0 := ⟨_, rfl⟩
  have mV : ∀ F, Mv F V W0 := fun F => by rw [← hW0]; exact Mv.alloc _ _ _
  have cy : W0.cell? ⟨V.heap.size, 0, none⟩ = some (.func (.yield l0) #[] #[]) := by rw [← hW0]; exact cell_at rfl rfl
  have hs0 : W0.heap.size = V.heap.size + 1 := by rw [← hW0]; simp
  have ct0 := (mV (fun _ => False)).cell (fun h => h) ctV
  have hSet := hidP (sets_any S.bt W0)
  have hlowH := hidP hlow
  have hsH := hidP hs0
  have mVH := hidP mV
  have cyH := hidP cy
  have hVH := hidP hV
  have eB1H := hidP eB1
  clear hlow hs0 mV cy hV eB1
  refine (callsIn_wide (n := 5)).1 ?_
  refine callsIn_of_wp_marks Tryz.func105 rfl trivial ?_ rfl
  simp only [Tryz.ntmps105, List.size_toArray, List.length_cons, List.length_nil, Nat.reduceAdd, Nat.reduceSub, Array.replicate_succ, Array.replicate_zero, List.push_toArray, List.append_toArray, List.nil_append, List.cons_append]
  gi_wp2_with (rw [hW0])
  refine ⟨trivial, (callsIn_wide.2 hSet.out).mono ?_⟩
  rintro e W1 ⟨rfl, hW1⟩
  have m1 : ∀ F, Mv F V W1 := fun F => by rw [hW1]; exact (mVH.out F).trans' (Mv.alloc _ _ _)
  have ct1 : W1.cell? ⟨W0.heap.size, 0, none⟩ = some (.pointer (some ⟨S.bt, 3, none⟩)) := by rw [hW1]; exact cell_at rfl rfl
  have cy1 : W1.cell? ⟨V.heap.size, 0, none⟩ = some (.func (.yield l0) #[] #[]) := by rw [hW1]; exact (Mv.alloc (fun _ => False) _ _).cell (fun h => h) cyH.out
  have hs1 : W1.heap.size = V.heap.size + 2 := by rw [hW1]; simp [hsH.out]
  have et1 : ¬ E1 W0.heap.size := fun h => by have := hlowH.out _ h; have := hsH.out; omega
  have ey1 : ¬ E1 V.heap.size := fun h => by have := hlowH.out _ h; omega
  have k0 : J S.l E1 W1 := hJ.keep _ _ _ _ h0 (m1 _)
  have hG1 : Gs W1 S := hVH.out.mv (m1 (fun _ => False)) (fun _ _ h => h)
  clear hW1 ct0 ctV
  gi_wp2_with fail
  have tI : Ter W1.heap.size (fun s E2 W => (∃ k, s = S.l.drop k) ∧ J s E2 W) := (hJ.up (by omega)).and _
  refine loop_out (gf := 115) (lb := #[.pointer (some ⟨W0.heap.size, 0, none⟩)]) rfl (enters_of Tryz.func115 (by kernel_rfl) rfl)
    (sets_row S W0.heap.size E1 W1 hG1 hs hc hl ct1 et1 eB1H.out) (fun _ => rfl)
    (fun s E2 W => (∃ k, s = S.l.drop k) ∧ J s E2 W) (fun c E2 W => c = Code.ret ∧ Jx () E2 W) tI (((hJx.comp (fun _ => ())).up (by omega)).and (fun c => c = Code.ret))
    ⟨⟨0, rfl⟩, k0⟩ ?round ?done ?stop
  case round =>
    intro l1 hl1 x rest E2 U hi hm hg hEl hrec
    simp only [encG]
    gi_wp2
    refine ⟨⟨Mv.refl _ _, trivial⟩, fun U2 tw => ?_⟩
    obtain ⟨⟨hk2, hi2⟩, hm2⟩ := tw.go tI hi (Mv.refl _ _) hm (Nat.le_refl _) (by omega) hEl
    have hG2 : Gs U2 S := hG1.mv hm2 eB1H.out
    have hYE : ¬ E1 V.heap.size := ey1
    have cy2 := hm2.cell ey1 cy1
    have hi2H := hidP hi2
    have hd2 : Hid (Below U2.heap.size U2 U2.drew) := (Below.refl _ _).drew
    have hxm : x ∈ S.l := by obtain ⟨k, hk⟩ := hk2; exact List.mem_of_mem_drop (i := k) (by rw [← hk]; simp)
    have hrest : Hid (∃ k, rest = S.l.drop k) := by obtain ⟨k, hk⟩ := hk2; exact ⟨k + 1, by rw [List.drop_add_one_eq_tail_drop, ← hk]; rfl⟩
    have hris : Hid (Calls Tryz.prog 85 #[.map (some x.blk)] U2.drew fun e w' => ∃ v, e = .returned v ∧ Below U2.heap.size U2 w') := (rising_any x.blk x.pids U2.drew ((hG2.below hd2.out).mem x hxm) (hG2.wf.nd x hxm) (by have := hG2.pl x hxm; omega)).mono (fun e w' q => by obtain ⟨v, q1, _, _, q2⟩ := q; exact ⟨v, q1, hd2.out.trans (q2.mono (Nat.le_refl _))⟩)
    have hYx : Hid (∀ W v, Below U2.heap.size U2 W → YieldAt Fence.wide 3 Tryz.prog l0 #[.string x.name, v] W fun e V => Mv E2 W V ∧ ((e = .returned (.bool true) ∧ ∃ E', Gr E2 W E' ∧ J rest E' V) ∨ (e = .returned (.bool false) ∧ ∃ E', Gr E2 W E' ∧ Jx () E' V))) :=
      fun W v b => hY x rest E2 W _ (hJ.keep _ _ _ _ hi2H.out (Mv.below b)) ⟨v, rfl⟩
    have cyB : Hid (∀ W, Below U2.heap.size U2 W → W.cell? ⟨V.heap.size, 0, none⟩ = some (.func (.yield l0) #[] #[])) := fun W b => (Mv.below (E := fun _ => False) b).cell (a := ⟨V.heap.size, 0, none⟩) (fun h => h) cy2
    have cyD := cyB.out _ hd2.out
    obtain ⟨D, hD⟩ : ∃ D, U2.drew = D := ⟨_, rfl⟩
    rw [hD] at hris cyD hd2
    clear tw hi hm hrec hg hEl hi2 hm2 hG2 k0 hxm cy2 hk2
    gi_wp2_with fail
    refine wpIn_region_any (by kernel_rfl) ?_
    change wpAnyIn _ _ _ _ _ _ _ _ _ (World.drew U2)
    rw [hD]
    refine wpAnyIn_ready (rs := [0, 1, 2]) (by kernel_rfl) (by simp) ?_
    refine AllReadyIn.cons rfl (fun K hK => ?_) ?_
    · go_simp
      refine hK _ _ ?_
      clear hK K
      refine wpAnyIn_ready (rs := [1, 2]) (by kernel_rfl) (by simp) ?_
      refine AllReadyIn.cons rfl (fun K hK => ?_) ?_
      · go_simp
        refine hK _ _ ?_
        clear hK K
        refine wpAnyIn_ready (rs := [2]) (by kernel_rfl) (by simp) ?_
        refine AllReadyIn.cons rfl (fun K hK => ?_) AllReadyIn.nil
        go_simp
        refine hK _ _ ?_
        clear hK K
        refine wpAnyIn_ready (rs := [3]) (by kernel_rfl) (by simp) ?_
        refine AllReadyIn.cons rfl (fun K hK => ?_) AllReadyIn.nil
        go_simp
        refine ⟨trivial, (CallsIn.inRound l1 (callsIn_wide.2 hris.out)).mono ?_⟩
        rintro e W3 ⟨v, rfl, hb3⟩
        have hb3H := hidP hb3
        have cy3 := cyB.out W3 hb3
        obtain ⟨fn, tmps, assign, body, hy, hR⟩ := hYx.out W3 v hb3
        have hRr := hidP hR
        clear hb3 hR
        go_simp
        refine hK _ _ ?_
        clear hK K
        refine wpAnyIn_ready (rs := [4]) (by kernel_rfl) (by simp) ?_
        refine AllReadyIn.cons rfl (fun K hK => ?_) AllReadyIn.nil
        go_simp
        refine (wide_round hRr.out).mono ?_
        rintro e W4 ⟨m4, (⟨rfl, E3, g3, hj3⟩ | ⟨rfl, E3, g3, hj3⟩)⟩
        · have fin := hidP (And.intro ((Mv.below hb3H.out).trans' m4) (And.intro (show Gr E2 U2 E3 from g3.mono hb3H.out.size) hj3))
          clear m4 g3 hj3
          go_simp
          refine hK _ _ ?_
          clear hK K
          refine wpAnyIn_ready (rs := [5]) (by kernel_rfl) (by simp) ?_
          refine AllReadyIn.cons rfl (fun K hK => ?_) AllReadyIn.nil
          go_simp
          refine hK _ _ ?_
          clear hK K
          refine wpAnyIn_done (by kernel_rfl) ?_ _
          gi_wp2_with fail
          exact ⟨fin.out.1, E3, fin.out.2.1, hrest.out, fin.out.2.2⟩
        · have fin := hidP (And.intro ((Mv.below hb3H.out).trans' m4) (And.intro (show Gr E2 U2 E3 from g3.mono hb3H.out.size) hj3))
          clear m4 g3 hj3
          go_simp
          refine hK _ _ ?_
          clear hK K
          refine wpAnyIn_ready (rs := [5]) (by kernel_rfl) (by simp) ?_
          refine AllReadyIn.cons rfl (fun K hK => ?_) AllReadyIn.nil
          go_simp
          refine hK _ _ ?_
          clear hK K
          refine wpAnyIn_done (by kernel_rfl) ?_ _
          gi_wp2_with fail
          exact ⟨fin.out.1, E3, fin.out.2.1, rfl, fin.out.2.2⟩
      refine AllReadyIn.cons rfl (fun K hK => ?_) AllReadyIn.nil
      go_simp
      refine hK _ _ ?_
      clear hK K
      refine wpAnyIn_ready (rs := [1, 3]) (by kernel_rfl) (by simp) ?_
      refine AllReadyIn.cons rfl (fun K hK => ?_) ?_
      · go_simp
        refine hK _ _ ?_
        clear hK K
        refine wpAnyIn_ready (rs := [3]) (by kernel_rfl) (by simp) ?_
        refine AllReadyIn.cons rfl (fun K hK => ?_) AllReadyIn.nil
        go_simp
        refine ⟨trivial, (CallsIn.inRound l1 (callsIn_wide.2 hris.out)).mono ?_⟩
        rintro e W3 ⟨v, rfl, hb3⟩
        have hb3H := hidP hb3
        have cy3 := cyB.out W3 hb3
        obtain ⟨fn, tmps, assign, body, hy, hR⟩ := hYx.out W3 v hb3
        have hRr := hidP hR
        clear hb3 hR
        go_simp
        refine hK _ _ ?_
        clear hK K
        refine wpAnyIn_ready (rs := [4]) (by kernel_rfl) (by simp) ?_
        refine AllReadyIn.cons rfl (fun K hK => ?_) AllReadyIn.nil
        go_simp
        refine (wide_round hRr.out).mono ?_
        rintro e W4 ⟨m4, (⟨rfl, E3, g3, hj3⟩ | ⟨rfl, E3, g3, hj3⟩)⟩
        · have fin := hidP (And.intro ((Mv.below hb3H.out).trans' m4) (And.intro (show Gr E2 U2 E3 from g3.mono hb3H.out.size) hj3))
          clear m4 g3 hj3
          go_simp
          refine hK _ _ ?_
          clear hK K
          refine wpAnyIn_ready (rs := [5]) (by kernel_rfl) (by simp) ?_
          refine AllReadyIn.cons rfl (fun K hK => ?_) AllReadyIn.nil
          go_simp
          refine hK _ _ ?_
          clear hK K
          refine wpAnyIn_done (by kernel_rfl) ?_ _
          gi_wp2_with fail
          exact ⟨fin.out.1, E3, fin.out.2.1, hrest.out, fin.out.2.2⟩
        · have fin := hidP (And.intro ((Mv.below hb3H.out).trans' m4) (And.intro (show Gr E2 U2 E3 from g3.mono hb3H.out.size) hj3))
          clear m4 g3 hj3
          go_simp
          refine hK _ _ ?_
          clear hK K
          refine wpAnyIn_ready (rs := [5]) (by kernel_rfl) (by simp) ?_
          refine AllReadyIn.cons rfl (fun K hK => ?_) AllReadyIn.nil
          go_simp
          refine hK _ _ ?_
          clear hK K
          refine wpAnyIn_done (by kernel_rfl) ?_ _
          gi_wp2_with fail
          exact ⟨fin.out.1, E3, fin.out.2.1, rfl, fin.out.2.2⟩
      refine AllReadyIn.cons rfl (fun K hK => ?_) AllReadyIn.nil
      go_simp
      refine ⟨trivial, (CallsIn.inRound l1 (callsIn_wide.2 hris.out)).mono ?_⟩
      rintro e W3 ⟨v, rfl, hb3⟩
      have hb3H := hidP hb3
      have cy3 := cyB.out W3 hb3
      obtain ⟨fn, tmps, assign, body, hy, hR⟩ := hYx.out W3 v hb3
      have hRr := hidP hR
      clear hb3 hR
      go_simp
      refine hK _ _ ?_
      clear hK K
      refine wpAnyIn_ready (rs := [1]) (by kernel_rfl) (by simp) ?_
      refine AllReadyIn.cons rfl (fun K hK => ?_) AllReadyIn.nil
      go_simp
      refine hK _ _ ?_
      clear hK K
      refine wpAnyIn_ready (rs := [4]) (by kernel_rfl) (by simp) ?_
      refine AllReadyIn.cons rfl (fun K hK => ?_) AllReadyIn.nil
      go_simp
      refine (wide_round hRr.out).mono ?_
      rintro e W4 ⟨m4, (⟨rfl, E3, g3, hj3⟩ | ⟨rfl, E3, g3, hj3⟩)⟩
      · have fin := hidP (And.intro ((Mv.below hb3H.out).trans' m4) (And.intro (show Gr E2 U2 E3 from g3.mono hb3H.out.size) hj3))
        clear m4 g3 hj3
        go_simp
        refine hK _ _ ?_
        clear hK K
        refine wpAnyIn_ready (rs := [5]) (by kernel_rfl) (by simp) ?_
        refine AllReadyIn.cons rfl (fun K hK => ?_) AllReadyIn.nil
        go_simp
        refine hK _ _ ?_
        clear hK K
        refine wpAnyIn_done (by kernel_rfl) ?_ _
        gi_wp2_with fail
        exact ⟨fin.out.1, E3, fin.out.2.1, hrest.out, fin.out.2.2⟩
      · have fin := hidP (And.intro ((Mv.below hb3H.out).trans' m4) (And.intro (show Gr E2 U2 E3 from g3.mono hb3H.out.size) hj3))
        clear m4 g3 hj3
        go_simp
        refine hK _ _ ?_
        clear hK K
        refine wpAnyIn_ready (rs := [5]) (by kernel_rfl) (by simp) ?_
        refine AllReadyIn.cons rfl (fun K hK => ?_) AllReadyIn.nil
        go_simp
        refine hK _ _ ?_
        clear hK K
        refine wpAnyIn_done (by kernel_rfl) ?_ _
        gi_wp2_with fail
        exact ⟨fin.out.1, E3, fin.out.2.1, rfl, fin.out.2.2⟩
    refine AllReadyIn.cons rfl (fun K hK => ?_) ?_
    · go_simp
      refine hK _ _ ?_
      clear hK K
      refine wpAnyIn_ready (rs := [0, 2]) (by kernel_rfl) (by simp) ?_
      refine AllReadyIn.cons rfl (fun K hK => ?_) ?_
      · go_simp
        refine hK _ _ ?_
        clear hK K
        refine wpAnyIn_ready (rs := [2]) (by kernel_rfl) (by simp) ?_
        refine AllReadyIn.cons rfl (fun K hK => ?_) AllReadyIn.nil
        go_simp
        refine hK _ _ ?_
        clear hK K
        refine wpAnyIn_ready (rs := [3]) (by kernel_rfl) (by simp) ?_
        refine AllReadyIn.cons rfl (fun K hK => ?_) AllReadyIn.nil
        go_simp
        refine ⟨trivial, (CallsIn.inRound l1 (callsIn_wide.2 hris.out)).mono ?_⟩
        rintro e W3 ⟨v, rfl, hb3⟩
        have hb3H := hidP hb3
        have cy3 := cyB.out W3 hb3
        obtain ⟨fn, tmps, assign, body, hy, hR⟩ := hYx.out W3 v hb3
        have hRr := hidP hR
        clear hb3 hR
        go_simp
        refine hK _ _ ?_
        clear hK K
        refine wpAnyIn_ready (rs := [4]) (by kernel_rfl) (by simp) ?_
        refine AllReadyIn.cons rfl (fun K hK => ?_) AllReadyIn.nil
        go_simp
        refine (wide_round hRr.out).mono ?_
        rintro e W4 ⟨m4, (⟨rfl, E3, g3, hj3⟩ | ⟨rfl, E3, g3, hj3⟩)⟩
        · have fin := hidP (And.intro ((Mv.below hb3H.out).trans' m4) (And.intro (show Gr E2 U2 E3 from g3.mono hb3H.out.size) hj3))
          clear m4 g3 hj3
          go_simp
          refine hK _ _ ?_
          clear hK K
          refine wpAnyIn_ready (rs := [5]) (by kernel_rfl) (by simp) ?_
          refine AllReadyIn.cons rfl (fun K hK => ?_) AllReadyIn.nil
          go_simp
          refine hK _ _ ?_
          clear hK K
          refine wpAnyIn_done (by kernel_rfl) ?_ _
          gi_wp2_with fail
          exact ⟨fin.out.1, E3, fin.out.2.1, hrest.out, fin.out.2.2⟩
        · have fin := hidP (And.intro ((Mv.below hb3H.out).trans' m4) (And.intro (show Gr E2 U2 E3 from g3.mono hb3H.out.size) hj3))
          clear m4 g3 hj3
          go_simp
          refine hK _ _ ?_
          clear hK K
          refine wpAnyIn_ready (rs := [5]) (by kernel_rfl) (by simp) ?_
          refine AllReadyIn.cons rfl (fun K hK => ?_) AllReadyIn.nil
          go_simp
          refine hK _ _ ?_
          clear hK K
          refine wpAnyIn_done (by kernel_rfl) ?_ _
          gi_wp2_with fail
          exact ⟨fin.out.1, E3, fin.out.2.1, rfl, fin.out.2.2⟩
      refine AllReadyIn.cons rfl (fun K hK => ?_) AllReadyIn.nil
      go_simp
      refine hK _ _ ?_
      clear hK K
      refine wpAnyIn_ready (rs := [0, 3]) (by kernel_rfl) (by simp) ?_
      refine AllReadyIn.cons rfl (fun K hK => ?_) ?_
      · go_simp
        refine hK _ _ ?_
        clear hK K
        refine wpAnyIn_ready (rs := [3]) (by kernel_rfl) (by simp) ?_
        refine AllReadyIn.cons rfl (fun K hK => ?_) AllReadyIn.nil
        go_simp
        refine ⟨trivial, (CallsIn.inRound l1 (callsIn_wide.2 hris.out)).mono ?_⟩
        rintro e W3 ⟨v, rfl, hb3⟩
        have hb3H := hidP hb3
        have cy3 := cyB.out W3 hb3
        obtain ⟨fn, tmps, assign, body, hy, hR⟩ := hYx.out W3 v hb3
        have hRr := hidP hR
        clear hb3 hR
        go_simp
        refine hK _ _ ?_
        clear hK K
        refine wpAnyIn_ready (rs := [4]) (by kernel_rfl) (by simp) ?_
        refine AllReadyIn.cons rfl (fun K hK => ?_) AllReadyIn.nil
        go_simp
        refine (wide_round hRr.out).mono ?_
        rintro e W4 ⟨m4, (⟨rfl, E3, g3, hj3⟩ | ⟨rfl, E3, g3, hj3⟩)⟩
        · have fin := hidP (And.intro ((Mv.below hb3H.out).trans' m4) (And.intro (show Gr E2 U2 E3 from g3.mono hb3H.out.size) hj3))
          clear m4 g3 hj3
          go_simp
          refine hK _ _ ?_
          clear hK K
          refine wpAnyIn_ready (rs := [5]) (by kernel_rfl) (by simp) ?_
          refine AllReadyIn.cons rfl (fun K hK => ?_) AllReadyIn.nil
          go_simp
          refine hK _ _ ?_
          clear hK K
          refine wpAnyIn_done (by kernel_rfl) ?_ _
          gi_wp2_with fail
          exact ⟨fin.out.1, E3, fin.out.2.1, hrest.out, fin.out.2.2⟩
        · have fin := hidP (And.intro ((Mv.below hb3H.out).trans' m4) (And.intro (show Gr E2 U2 E3 from g3.mono hb3H.out.size) hj3))
          clear m4 g3 hj3
          go_simp
          refine hK _ _ ?_
          clear hK K
          refine wpAnyIn_ready (rs := [5]) (by kernel_rfl) (by simp) ?_
          refine AllReadyIn.cons rfl (fun K hK => ?_) AllReadyIn.nil
          go_simp
          refine hK _ _ ?_
          clear hK K
          refine wpAnyIn_done (by kernel_rfl) ?_ _
          gi_wp2_with fail
          exact ⟨fin.out.1, E3, fin.out.2.1, rfl, fin.out.2.2⟩
      refine AllReadyIn.cons rfl (fun K hK => ?_) AllReadyIn.nil
      go_simp
      refine ⟨trivial, (CallsIn.inRound l1 (callsIn_wide.2 hris.out)).mono ?_⟩
      rintro e W3 ⟨v, rfl, hb3⟩
      have hb3H := hidP hb3
      have cy3 := cyB.out W3 hb3
      obtain ⟨fn, tmps, assign, body, hy, hR⟩ := hYx.out W3 v hb3
      have hRr := hidP hR
      clear hb3 hR
      go_simp
      refine hK _ _ ?_
      clear hK K
      refine wpAnyIn_ready (rs := [0]) (by kernel_rfl) (by simp) ?_
      refine AllReadyIn.cons rfl (fun K hK => ?_) AllReadyIn.nil
      go_simp
      refine hK _ _ ?_
      clear hK K
      refine wpAnyIn_ready (rs := [4]) (by kernel_rfl) (by simp) ?_
      refine AllReadyIn.cons rfl (fun K hK => ?_) AllReadyIn.nil
      go_simp
      refine (wide_round hRr.out).mono ?_
      rintro e W4 ⟨m4, (⟨rfl, E3, g3, hj3⟩ | ⟨rfl, E3, g3, hj3⟩)⟩
      · have fin := hidP (And.intro ((Mv.below hb3H.out).trans' m4) (And.intro (show Gr E2 U2 E3 from g3.mono hb3H.out.size) hj3))
        clear m4 g3 hj3
        go_simp
        refine hK _ _ ?_
        clear hK K
        refine wpAnyIn_ready (rs := [5]) (by kernel_rfl) (by simp) ?_
        refine AllReadyIn.cons rfl (fun K hK => ?_) AllReadyIn.nil
        go_simp
        refine hK _ _ ?_
        clear hK K
        refine wpAnyIn_done (by kernel_rfl) ?_ _
        gi_wp2_with fail
        exact ⟨fin.out.1, E3, fin.out.2.1, hrest.out, fin.out.2.2⟩
      · have fin := hidP (And.intro ((Mv.below hb3H.out).trans' m4) (And.intro (show Gr E2 U2 E3 from g3.mono hb3H.out.size) hj3))
        clear m4 g3 hj3
        go_simp
        refine hK _ _ ?_
        clear hK K
        refine wpAnyIn_ready (rs := [5]) (by kernel_rfl) (by simp) ?_
        refine AllReadyIn.cons rfl (fun K hK => ?_) AllReadyIn.nil
        go_simp
        refine hK _ _ ?_
        clear hK K
        refine wpAnyIn_done (by kernel_rfl) ?_ _
        gi_wp2_with fail
        exact ⟨fin.out.1, E3, fin.out.2.1, rfl, fin.out.2.2⟩
    refine AllReadyIn.cons rfl (fun K hK => ?_) AllReadyIn.nil
    go_simp
    refine hK _ _ ?_
    clear hK K
    refine wpAnyIn_ready (rs := [0, 1, 3]) (by kernel_rfl) (by simp) ?_
    refine AllReadyIn.cons rfl (fun K hK => ?_) ?_
    · go_simp
      refine hK _ _ ?_
      clear hK K
      refine wpAnyIn_ready (rs := [1, 3]) (by kernel_rfl) (by simp) ?_
      refine AllReadyIn.cons rfl (fun K hK => ?_) ?_
      · go_simp
        refine hK _ _ ?_
        clear hK K
        refine wpAnyIn_ready (rs := [3]) (by kernel_rfl) (by simp) ?_
        refine AllReadyIn.cons rfl (fun K hK => ?_) AllReadyIn.nil
        go_simp
        refine ⟨trivial, (CallsIn.inRound l1 (callsIn_wide.2 hris.out)).mono ?_⟩
        rintro e W3 ⟨v, rfl, hb3⟩
        have hb3H := hidP hb3
        have cy3 := cyB.out W3 hb3
        obtain ⟨fn, tmps, assign, body, hy, hR⟩ := hYx.out W3 v hb3
        have hRr := hidP hR
        clear hb3 hR
        go_simp
        refine hK _ _ ?_
        clear hK K
        refine wpAnyIn_ready (rs := [4]) (by kernel_rfl) (by simp) ?_
        refine AllReadyIn.cons rfl (fun K hK => ?_) AllReadyIn.nil
        go_simp
        refine (wide_round hRr.out).mono ?_
        rintro e W4 ⟨m4, (⟨rfl, E3, g3, hj3⟩ | ⟨rfl, E3, g3, hj3⟩)⟩
        · have fin := hidP (And.intro ((Mv.below hb3H.out).trans' m4) (And.intro (show Gr E2 U2 E3 from g3.mono hb3H.out.size) hj3))
          clear m4 g3 hj3
          go_simp
          refine hK _ _ ?_
          clear hK K
          refine wpAnyIn_ready (rs := [5]) (by kernel_rfl) (by simp) ?_
          refine AllReadyIn.cons rfl (fun K hK => ?_) AllReadyIn.nil
          go_simp
          refine hK _ _ ?_
          clear hK K
          refine wpAnyIn_done (by kernel_rfl) ?_ _
          gi_wp2_with fail
          exact ⟨fin.out.1, E3, fin.out.2.1, hrest.out, fin.out.2.2⟩
        · have fin := hidP (And.intro ((Mv.below hb3H.out).trans' m4) (And.intro (show Gr E2 U2 E3 from g3.mono hb3H.out.size) hj3))
          clear m4 g3 hj3
          go_simp
          refine hK _ _ ?_
          clear hK K
          refine wpAnyIn_ready (rs := [5]) (by kernel_rfl) (by simp) ?_
          refine AllReadyIn.cons rfl (fun K hK => ?_) AllReadyIn.nil
          go_simp
          refine hK _ _ ?_
          clear hK K
          refine wpAnyIn_done (by kernel_rfl) ?_ _
          gi_wp2_with fail
          exact ⟨fin.out.1, E3, fin.out.2.1, rfl, fin.out.2.2⟩
      refine AllReadyIn.cons rfl (fun K hK => ?_) AllReadyIn.nil
      go_simp
      refine ⟨trivial, (CallsIn.inRound l1 (callsIn_wide.2 hris.out)).mono ?_⟩
      rintro e W3 ⟨v, rfl, hb3⟩
      have hb3H := hidP hb3
      have cy3 := cyB.out W3 hb3
      obtain ⟨fn, tmps, assign, body, hy, hR⟩ := hYx.out W3 v hb3
      have hRr := hidP hR
      clear hb3 hR
      go_simp
      refine hK _ _ ?_
      clear hK K
      refine wpAnyIn_ready (rs := [1]) (by kernel_rfl) (by simp) ?_
      refine AllReadyIn.cons rfl (fun K hK => ?_) AllReadyIn.nil
      go_simp
      refine hK _ _ ?_
      clear hK K
      refine wpAnyIn_ready (rs := [4]) (by kernel_rfl) (by simp) ?_
      refine AllReadyIn.cons rfl (fun K hK => ?_) AllReadyIn.nil
      go_simp
      refine (wide_round hRr.out).mono ?_
      rintro e W4 ⟨m4, (⟨rfl, E3, g3, hj3⟩ | ⟨rfl, E3, g3, hj3⟩)⟩
      · have fin := hidP (And.intro ((Mv.below hb3H.out).trans' m4) (And.intro (show Gr E2 U2 E3 from g3.mono hb3H.out.size) hj3))
        clear m4 g3 hj3
        go_simp
        refine hK _ _ ?_
        clear hK K
        refine wpAnyIn_ready (rs := [5]) (by kernel_rfl) (by simp) ?_
        refine AllReadyIn.cons rfl (fun K hK => ?_) AllReadyIn.nil
        go_simp
        refine hK _ _ ?_
        clear hK K
        refine wpAnyIn_done (by kernel_rfl) ?_ _
        gi_wp2_with fail
        exact ⟨fin.out.1, E3, fin.out.2.1, hrest.out, fin.out.2.2⟩
      · have fin := hidP (And.intro ((Mv.below hb3H.out).trans' m4) (And.intro (show Gr E2 U2 E3 from g3.mono hb3H.out.size) hj3))
        clear m4 g3 hj3
        go_simp
        refine hK _ _ ?_
        clear hK K
        refine wpAnyIn_ready (rs := [5]) (by kernel_rfl) (by simp) ?_
        refine AllReadyIn.cons rfl (fun K hK => ?_) AllReadyIn.nil
        go_simp
        refine hK _ _ ?_
        clear hK K
        refine wpAnyIn_done (by kernel_rfl) ?_ _
        gi_wp2_with fail
        exact ⟨fin.out.1, E3, fin.out.2.1, rfl, fin.out.2.2⟩
    refine AllReadyIn.cons rfl (fun K hK => ?_) ?_
    · go_simp
      refine hK _ _ ?_
      clear hK K
      refine wpAnyIn_ready (rs := [0, 3]) (by kernel_rfl) (by simp) ?_
      refine AllReadyIn.cons rfl (fun K hK => ?_) ?_
      · go_simp
        refine hK _ _ ?_
        clear hK K
        refine wpAnyIn_ready (rs := [3]) (by kernel_rfl) (by simp) ?_
        refine AllReadyIn.cons rfl (fun K hK => ?_) AllReadyIn.nil
        go_simp
        refine ⟨trivial, (CallsIn.inRound l1 (callsIn_wide.2 hris.out)).mono ?_⟩
        rintro e W3 ⟨v, rfl, hb3⟩
        have hb3H := hidP hb3
        have cy3 := cyB.out W3 hb3
        obtain ⟨fn, tmps, assign, body, hy, hR⟩ := hYx.out W3 v hb3
        have hRr := hidP hR
        clear hb3 hR
        go_simp
        refine hK _ _ ?_
        clear hK K
        refine wpAnyIn_ready (rs := [4]) (by kernel_rfl) (by simp) ?_
        refine AllReadyIn.cons rfl (fun K hK => ?_) AllReadyIn.nil
        go_simp
        refine (wide_round hRr.out).mono ?_
        rintro e W4 ⟨m4, (⟨rfl, E3, g3, hj3⟩ | ⟨rfl, E3, g3, hj3⟩)⟩
        · have fin := hidP (And.intro ((Mv.below hb3H.out).trans' m4) (And.intro (show Gr E2 U2 E3 from g3.mono hb3H.out.size) hj3))
          clear m4 g3 hj3
          go_simp
          refine hK _ _ ?_
          clear hK K
          refine wpAnyIn_ready (rs := [5]) (by kernel_rfl) (by simp) ?_
          refine AllReadyIn.cons rfl (fun K hK => ?_) AllReadyIn.nil
          go_simp
          refine hK _ _ ?_
          clear hK K
          refine wpAnyIn_done (by kernel_rfl) ?_ _
          gi_wp2_with fail
          exact ⟨fin.out.1, E3, fin.out.2.1, hrest.out, fin.out.2.2⟩
        · have fin := hidP (And.intro ((Mv.below hb3H.out).trans' m4) (And.intro (show Gr E2 U2 E3 from g3.mono hb3H.out.size) hj3))
          clear m4 g3 hj3
          go_simp
          refine hK _ _ ?_
          clear hK K
          refine wpAnyIn_ready (rs := [5]) (by kernel_rfl) (by simp) ?_
          refine AllReadyIn.cons rfl (fun K hK => ?_) AllReadyIn.nil
          go_simp
          refine hK _ _ ?_
          clear hK K
          refine wpAnyIn_done (by kernel_rfl) ?_ _
          gi_wp2_with fail
          exact ⟨fin.out.1, E3, fin.out.2.1, rfl, fin.out.2.2⟩
      refine AllReadyIn.cons rfl (fun K hK => ?_) AllReadyIn.nil
      go_simp
      refine ⟨trivial, (CallsIn.inRound l1 (callsIn_wide.2 hris.out)).mono ?_⟩
      rintro e W3 ⟨v, rfl, hb3⟩
      have hb3H := hidP hb3
      have cy3 := cyB.out W3 hb3
      obtain ⟨fn, tmps, assign, body, hy, hR⟩ := hYx.out W3 v hb3
      have hRr := hidP hR
      clear hb3 hR
      go_simp
      refine hK _ _ ?_
      clear hK K
      refine wpAnyIn_ready (rs := [0]) (by kernel_rfl) (by simp) ?_
      refine AllReadyIn.cons rfl (fun K hK => ?_) AllReadyIn.nil
      go_simp
      refine hK _ _ ?_
      clear hK K
      refine wpAnyIn_ready (rs := [4]) (by kernel_rfl) (by simp) ?_
      refine AllReadyIn.cons rfl (fun K hK => ?_) AllReadyIn.nil
      go_simp
      refine (wide_round hRr.out).mono ?_
      rintro e W4 ⟨m4, (⟨rfl, E3, g3, hj3⟩ | ⟨rfl, E3, g3, hj3⟩)⟩
      · have fin := hidP (And.intro ((Mv.below hb3H.out).trans' m4) (And.intro (show Gr E2 U2 E3 from g3.mono hb3H.out.size) hj3))
        clear m4 g3 hj3
        go_simp
        refine hK _ _ ?_
        clear hK K
        refine wpAnyIn_ready (rs := [5]) (by kernel_rfl) (by simp) ?_
        refine AllReadyIn.cons rfl (fun K hK => ?_) AllReadyIn.nil
        go_simp
        refine hK _ _ ?_
        clear hK K
        refine wpAnyIn_done (by kernel_rfl) ?_ _
        gi_wp2_with fail
        exact ⟨fin.out.1, E3, fin.out.2.1, hrest.out, fin.out.2.2⟩
      · have fin := hidP (And.intro ((Mv.below hb3H.out).trans' m4) (And.intro (show Gr E2 U2 E3 from g3.mono hb3H.out.size) hj3))
        clear m4 g3 hj3
        go_simp
        refine hK _ _ ?_
        clear hK K
        refine wpAnyIn_ready (rs := [5]) (by kernel_rfl) (by simp) ?_
        refine AllReadyIn.cons rfl (fun K hK => ?_) AllReadyIn.nil
        go_simp
        refine hK _ _ ?_
        clear hK K
        refine wpAnyIn_done (by kernel_rfl) ?_ _
        gi_wp2_with fail
        exact ⟨fin.out.1, E3, fin.out.2.1, rfl, fin.out.2.2⟩
    refine AllReadyIn.cons rfl (fun K hK => ?_) AllReadyIn.nil
    go_simp
    refine ⟨trivial, (CallsIn.inRound l1 (callsIn_wide.2 hris.out)).mono ?_⟩
    rintro e W3 ⟨v, rfl, hb3⟩
    have hb3H := hidP hb3
    have cy3 := cyB.out W3 hb3
    obtain ⟨fn, tmps, assign, body, hy, hR⟩ := hYx.out W3 v hb3
    have hRr := hidP hR
    clear hb3 hR
    go_simp
    refine hK _ _ ?_
    clear hK K
    refine wpAnyIn_ready (rs := [0, 1]) (by kernel_rfl) (by simp) ?_
    refine AllReadyIn.cons rfl (fun K hK => ?_) ?_
    · go_simp
      refine hK _ _ ?_
      clear hK K
      refine wpAnyIn_ready (rs := [1]) (by kernel_rfl) (by simp) ?_
      refine AllReadyIn.cons rfl (fun K hK => ?_) AllReadyIn.nil
      go_simp
      refine hK _ _ ?_
      clear hK K
      refine wpAnyIn_ready (rs := [4]) (by kernel_rfl) (by simp) ?_
      refine AllReadyIn.cons rfl (fun K hK => ?_) AllReadyIn.nil
      go_simp
      refine (wide_round hRr.out).mono ?_
      rintro e W4 ⟨m4, (⟨rfl, E3, g3, hj3⟩ | ⟨rfl, E3, g3, hj3⟩)⟩
      · have fin := hidP (And.intro ((Mv.below hb3H.out).trans' m4) (And.intro (show Gr E2 U2 E3 from g3.mono hb3H.out.size) hj3))
        clear m4 g3 hj3
        go_simp
        refine hK _ _ ?_
        clear hK K
        refine wpAnyIn_ready (rs := [5]) (by kernel_rfl) (by simp) ?_
        refine AllReadyIn.cons rfl (fun K hK => ?_) AllReadyIn.nil
        go_simp
        refine hK _ _ ?_
        clear hK K
        refine wpAnyIn_done (by kernel_rfl) ?_ _
        gi_wp2_with fail
        exact ⟨fin.out.1, E3, fin.out.2.1, hrest.out, fin.out.2.2⟩
      · have fin := hidP (And.intro ((Mv.below hb3H.out).trans' m4) (And.intro (show Gr E2 U2 E3 from g3.mono hb3H.out.size) hj3))
        clear m4 g3 hj3
        go_simp
        refine hK _ _ ?_
        clear hK K
        refine wpAnyIn_ready (rs := [5]) (by kernel_rfl) (by simp) ?_
        refine AllReadyIn.cons rfl (fun K hK => ?_) AllReadyIn.nil
        go_simp
        refine hK _ _ ?_
        clear hK K
        refine wpAnyIn_done (by kernel_rfl) ?_ _
        gi_wp2_with fail
        exact ⟨fin.out.1, E3, fin.out.2.1, rfl, fin.out.2.2⟩
    refine AllReadyIn.cons rfl (fun K hK => ?_) AllReadyIn.nil
    go_simp
    refine hK _ _ ?_
    clear hK K
    refine wpAnyIn_ready (rs := [0]) (by kernel_rfl) (by simp) ?_
    refine AllReadyIn.cons rfl (fun K hK => ?_) AllReadyIn.nil
    go_simp
    refine hK _ _ ?_
    clear hK K
    refine wpAnyIn_ready (rs := [4]) (by kernel_rfl) (by simp) ?_
    refine AllReadyIn.cons rfl (fun K hK => ?_) AllReadyIn.nil
    go_simp
    refine (wide_round hRr.out).mono ?_
    rintro e W4 ⟨m4, (⟨rfl, E3, g3, hj3⟩ | ⟨rfl, E3, g3, hj3⟩)⟩
    · have fin := hidP (And.intro ((Mv.below hb3H.out).trans' m4) (And.intro (show Gr E2 U2 E3 from g3.mono hb3H.out.size) hj3))
      clear m4 g3 hj3
      go_simp
      refine hK _ _ ?_
      clear hK K
      refine wpAnyIn_ready (rs := [5]) (by kernel_rfl) (by simp) ?_
      refine AllReadyIn.cons rfl (fun K hK => ?_) AllReadyIn.nil
      go_simp
      refine hK _ _ ?_
      clear hK K
      refine wpAnyIn_done (by kernel_rfl) ?_ _
      gi_wp2_with fail
      exact ⟨fin.out.1, E3, fin.out.2.1, hrest.out, fin.out.2.2⟩
    · have fin := hidP (And.intro ((Mv.below hb3H.out).trans' m4) (And.intro (show Gr E2 U2 E3 from g3.mono hb3H.out.size) hj3))
      clear m4 g3 hj3
      go_simp
      refine hK _ _ ?_
      clear hK K
      refine wpAnyIn_ready (rs := [5]) (by kernel_rfl) (by simp) ?_
      refine AllReadyIn.cons rfl (fun K hK => ?_) AllReadyIn.nil
      go_simp
      refine hK _ _ ?_
      clear hK K
      refine wpAnyIn_done (by kernel_rfl) ?_ _
      gi_wp2_with fail
      exact ⟨fin.out.1, E3, fin.out.2.1, rfl, fin.out.2.2⟩
  case done =>
    rintro D E2 U hD hK hnD hm hg ⟨_, hi⟩
    gi_wp2
    refine ⟨by simp, .inl ⟨_, _, rfl, run_takeDeferred hK, ?_⟩⟩
    exact ⟨_, results_none rfl _ _ _, ⟨_, rfl⟩, ((m1 _).trans' hm).put_new (by omega) _, .inl ⟨E2, hg.mono (m1 (fun _ => False)).size, hJ.keep _ _ _ _ hi (.put ⟨hnD, by omega⟩ _)⟩⟩
  case stop =>
    rintro D c E2 U hD hK hnD hm hg ⟨rfl, hi⟩
    gi_wp2
    refine ⟨by simp, .inl ⟨_, _, rfl, run_takeDeferred hK, ?_⟩⟩
    exact ⟨_, results_none rfl _ _ _, ⟨_, rfl⟩, ((m1 _).trans' hm).put_new (by omega) _, .inr ⟨E2, hg.mono (m1 (fun _ => False)).size, hJx.keep _ _ _ _ hi (.put ⟨hnD, by omega⟩ _)⟩⟩
end Go.Proofs.YtgienkdfodjoiaaGreat.Cg
