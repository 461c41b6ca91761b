/- The contract of package kern's hasGroup. -/
import Derived.Test.YtgienkdfodjoiaaGreatK2
import Derived.Test.YtgienkdfodjoiaaGreatK3
namespace Go.Proofs.YtgienkdfodjoiaaGreat
open Go.RowKit Go.Shelf Go.Lib
attribute [local go_sem] Oper.semAt_some
theorem bytes_beq (a b : ByteArray) : (a.toList == b.toList) = decide (a = b) := by
  rw [ByteArray.toList_eq, ByteArray.toList_eq]
  by_cases h : a = b
  · subst h; simp
  · rw [decide_eq_false h, beq_eq_false_iff_ne]
    exact fun e => h (ByteArray.ext (Array.toList_inj.1 e))
/-- How far the search has come. -/
def HI (R : Nat) (l : Cg.Gl) (g : ByteArray) (rest : Cg.Gl) (E : Nat → Prop) (W : World) : Prop := (∀ j, E j ↔ j = R) ∧ (∃ pre, l = pre ++ rest ∧ ∀ x ∈ pre, x.name ≠ g) ∧ Cl R (.bool false) W
def HX (R : Nat) (l : Cg.Gl) (g : ByteArray) (c : Code) (E : Nat → Prop) (W : World) : Prop := c = Code.ret ∧ (∀ j, E j ↔ j = R) ∧ (∃ x ∈ l, x.name = g) ∧ Cl R (.bool true) W
theorem HI.ter (b R : Nat) (l : Cg.Gl) (g : ByteArray) : Ter b (HI R l g) :=
  ⟨fun s E W V h m => ⟨h.1, h.2.1, h.2.2.mv m (fun q => q.1 ((h.1 R).2 rfl))⟩, fun s E W h k hk => by rw [(h.1 k).1 hk]; exact h.2.2.lt⟩
theorem HX.ter (b R : Nat) (l : Cg.Gl) (g : ByteArray) : Ter b (HX R l g) :=
  ⟨fun s E W V h m => ⟨h.1, h.2.1, h.2.2.1, h.2.2.2.mv m (fun q => q.1 ((h.2.1 R).2 rfl))⟩, fun s E W h k hk => by rw [(h.2.1 k).1 hk]; exact h.2.2.2.lt⟩
set_option maxRecDepth 100000 in
set_option maxHeartbeats 4000000 in
theorem has_any {K : Kst} {w : World} (h : Ks w K) (hs : Cg.srtG K.S.l) (hc : K.S.c ≤ 900000) (hl : K.S.l.length ≤ 1000) (g : ByteArray) :
    Calls Tryz.prog 58 #[kp K, .string g] w fun e w' => e = .returned (.bool (Cg.fnd K.S.l g).isSome) ∧ Below w.heap.size w w' := by
  obtain ⟨W0, hW0⟩ : ∃ W0, (w.alloc (.cells #[.string g] 9)).alloc (.cells #[.bool false] 4) = W0 := ⟨_, rfl⟩
  have hs0 : W0.heap.size = w.heap.size + 2 := by rw [← hW0]; simp
  have b0 : Below w.heap.size w W0 := by rw [← hW0]; exact ((Below.refl _ _).alloc (Nat.le_refl _) _).alloc (by simp) _
  have cg0 : W0.cell? ⟨w.heap.size, 0, none⟩ = some (.string g) := by rw [← hW0]; exact (Mv.alloc (fun _ => False) _ _).cell (a := ⟨w.heap.size, 0, none⟩) (fun h => h) (cell_at rfl rfl)
  have cr0 : Cl (w.heap.size + 1) (.bool false) W0 := by rw [← hW0]; exact Cl.new _ _ _ _ (by simp)
  have hA := hidK (Cg.all_any K.S.bt W0)
  have hG0 := h.g.below b0
  obtain ⟨n, hn⟩ : ∃ n, w.heap.size = n := ⟨_, rfl⟩
  have hKlt : ∀ k, Cg.hasB K.S k → k < n := fun k hk => by rw [← hn]; exact h.g.lt hk
  rw [hn] at hs0 cg0 cr0
  have hnH := hidK hn
  have b0H := hidK b0
  have cg0H := hidK cg0
  have cr0H := hidK cr0
  have hs0H := hidK hs0
  have hG0H := hidK hG0
  have hKltH := hidK hKlt
  clear b0 cg0 cr0 hs0 hG0 hKlt h
  unfold kp
  refine (callsIn_wide (n := 5)).1 ?_
  refine callsIn_of_wp_marks Tryz.func58 rfl trivial ?_ rfl
  simp only [Tryz.ntmps58, List.size_toArray, List.length_cons, List.length_nil, Nat.reduceAdd, Nat.reduceSub, Array.replicate_succ, Array.replicate_zero, List.push_toArray, List.append_toArray, List.nil_append, List.cons_append]
  gi_wp2_with (rw [hW0])
  refine ⟨trivial, (callsIn_wide.2 hA.out).mono ?_⟩
  rintro e W1 ⟨rfl, hW1⟩
  have m1 : ∀ F, Mv F W0 W1 := fun F => by rw [hW1]; exact Mv.alloc _ _ _
  have ct1 : W1.cell? ⟨W0.heap.size, 0, none⟩ = some (.pointer (some ⟨K.S.bt, 3, none⟩)) := by rw [hW1]; exact cell_at rfl rfl
  have hs1 : W1.heap.size = n + 3 := by rw [hW1]; simp [hs0H.out]
  rw [hs0H.out] at ct1
  have cg1 := (m1 (fun _ => False)).cell (a := ⟨n, 0, none⟩) (fun h => h) cg0H.out
  have cr1 := cr0H.out.mv (m1 (fun _ => False)) (fun h => h)
  have hG1 : Cg.Gs W1 (K.S.at w) := hG0H.out.mv (m1 (fun _ => False)) (fun _ _ h => h)
  obtain ⟨E, hE⟩ : ∃ E : Nat → Prop, ∀ j, E j ↔ j = n + 1 := ⟨_, fun _ => Iff.rfl⟩
  have nE : ∀ {k}, k ≠ n + 1 → ¬ E k := fun {k} q e => q ((hE k).1 e)
  have hrow := Cg.all_rowN (K.S.at w) (n + 2) E W1 hG1 hs hc hl ct1 (nE (by omega)) (fun k hk => nE (by have := hKltH.out k hk; omega))
  have h0I : HI (n + 1) K.S.l g K.S.l E W1 := ⟨hE, ⟨[], rfl, by simp⟩, cr1⟩
  have tI := HI.ter W1.heap.size (n + 1) K.S.l g
  have tX := HX.ter W1.heap.size (n + 1) K.S.l g
  have hs0' := hs0H.out
  have bF : Hid (∀ U, Mv E W1 U → Below w.heap.size w U) := fun U m => by
    have hne := hnH.out
    refine (b0H.out.trans ((m1 (fun _ => False)).toBelow b0H.out.size (fun _ _ h => h))).trans (m.toBelow ?_ (fun k hk e => ?_))
    · omega
    · have := (hE k).1 e; omega
  have cgU : Hid (∀ U, Mv E W1 U → U.cell? ⟨n, 0, none⟩ = some (.string g)) := fun U m => m.cell (a := ⟨n, 0, none⟩) (nE (k := n) (by omega)) cg1
  clear hW1 cg1 cr1 hG1
  gi_wp2_with fail
  refine loop_outR (gf := 105) (lb := #[.pointer (some ⟨n + 2, 0, none⟩)]) rfl (enters_of Tryz.func105 (by kernel_rfl) rfl) hrow Cg.NmR.size Cg.NmR.anti (HI (n + 1) K.S.l g) (HX (n + 1) K.S.l g) tI tX h0I ?round ?done ?stop
  case round =>
    rintro l1 hl1 x rest E2 U args hi ⟨v, rfl⟩ hm hgr hEl hrec
    gi_wp2
    refine ⟨⟨Mv.refl _ _, trivial⟩, fun U2 tw => ?_⟩
    obtain ⟨⟨hE2, ⟨pre, hpre, hne⟩, hcr⟩, hm2⟩ := tw.go tI hi (Mv.refl _ _) hm (Nat.le_refl _) (by omega) hEl
    have cg2 := cgU.out U2 hm2
    have c1 := hcr.c
    have f1 := hcr.f
    have hE2H := hidK hE2
    have hpreH := hidK hpre
    have hneH := hidK hne
    have hcrH := hidK hcr
    clear tw hi hm hrec hgr hEl hE2 hpre hne hcr hm2 hrow h0I tI tX
    by_cases hx : x.name = g
    · have hxe : (x.name.toList == g.toList) = true := by rw [bytes_beq, decide_eq_true hx]
      have hset := hidK (hcrH.out.set (.bool true))
      have hmem : Hid (∃ x ∈ K.S.l, x.name = g) := ⟨x, by rw [hpreH.out]; simp, hx⟩
      gi_wp2_with fail
      exact ⟨Mv.set1 ((hE2H.out _).2 rfl) _, E2, Gr.refl _ _, rfl, hE2H.out, hmem.out, hset.out⟩
    · have hxe : (x.name.toList == g.toList) = false := by rw [bytes_beq, decide_eq_false hx]
      have hst : Hid (∃ pre, K.S.l = pre ++ rest ∧ ∀ x ∈ pre, x.name ≠ g) := ⟨pre ++ [x], by rw [hpreH.out]; simp, fun y hy => by
        rcases List.mem_append.1 hy with q | q
        · exact hneH.out y q
        · rw [List.mem_singleton.1 q]; exact hx⟩
      gi_wp2_with fail
      exact ⟨Mv.refl _ _, E2, Gr.refl _ _, hE2H.out, hst.out, hcrH.out⟩
  case done =>
    rintro D E2 U hD hK hnD hm hgr ⟨hE2, ⟨pre, hpre, hne⟩, hcr⟩
    have hnone : Cg.fnd K.S.l g = none := Cg.fnd_none.2 (fun x hx => hne x (by rw [hpre] at hx; simpa using hx))
    have c1 := hcr.c
    have f1 := hcr.f
    have hKH := hidK hK
    have hDl := lt_of_heap hK
    have hbU := hidK (bF.out U hm)
    have hset := hidK (hcr.set (.bool false))
    have hnoneH := hidK hnone
    have hDn : Hid (n + 1 ≠ D) := fun e => hnD ((hE2 D).2 e.symm)
    have hnn := hidK (show n ≤ D by omega)
    clear hm hgr hE2 hpre hne hcr hK hnone hrow h0I tI tX
    gi_wp2_with fail
    have mS : Mv (fun j => j = n + 1) U (U.setCell ⟨n + 1, 0, none⟩ (.bool false)) := Mv.set1 (E := fun j => j = n + 1) rfl _
    have hKV := (mS.block D hDl (fun e => hDn.out e.symm)).trans hKH.out
    refine ⟨by simp, .inl ⟨_, _, rfl, run_takeDeferred hKV, ?_⟩⟩
    have mP : Mv (fun j => j = D) (U.setCell ⟨n + 1, 0, none⟩ (.bool false)) ((U.setCell ⟨n + 1, 0, none⟩ (.bool false)).putObj D (.deferred none)) := Mv.put (E := fun j => j = D) rfl _
    have k0 := mP.cell (a := ⟨n + 1, 0, none⟩) hDn.out hset.out.c
    refine ⟨.bool false, by simp [results, Tryz.results58, go_sem, k0], by rw [hnoneH.out]; rfl, ?_⟩
    have hne := hnH.out
    exact (hbU.out.trans (mS.toBelow hbU.out.size (fun k hk e => by omega))).trans (mP.toBelow (by have := hbU.out.size; have := mS.size; omega) (fun k hk e => by have := hnn.out; omega))
  case stop =>
    rintro D c E2 U hD hK hnD hm hgr ⟨rfl, hE2, ⟨x, hx, hxn⟩, hcr⟩
    have hsome : (Cg.fnd K.S.l g).isSome = true := by
      cases e : Cg.fnd K.S.l g with
      | none => exact absurd hxn (Cg.fnd_none.1 e x hx)
      | some y => rfl
    have hDn : n + 1 ≠ D := fun e => hnD ((hE2 D).2 e.symm)
    have hnn : n ≤ D := by omega
    have hbU := bF.out U hm
    gi_wp2_with fail
    refine ⟨by simp, .inl ⟨_, _, rfl, run_takeDeferred hK, ?_⟩⟩
    have mP : Mv (fun j => j = D) U (U.putObj D (.deferred none)) := Mv.put (E := fun j => j = D) rfl _
    have k0 := mP.cell (a := ⟨n + 1, 0, none⟩) hDn hcr.c
    refine ⟨.bool true, by simp [results, Tryz.results58, go_sem, k0], by rw [hsome], ?_⟩
    have hne := hnH.out
    exact hbU.trans (mP.toBelow hbU.size (fun k hk e => by omega))
end Go.Proofs.YtgienkdfodjoiaaGreat
