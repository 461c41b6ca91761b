import Derived.Test.YtiinhfbfciccnaaDoorYC
import Derived.Maps.OwnIn
import Derived.RangeFuncBox
/- The row of package line's whole lines: the walk. -/
namespace Go.Proofs.YtiinhfbfciccnaaDoor
open Go.RowKit Go.Shelf Lin
attribute [local go_sem] Oper.semAt_some
set_option maxRecDepth 100000 in
set_option maxHeartbeats 4000000 in
theorem whole1_row (s : ByteArray) (bs : Nat) (mx : Int) (E : Nat → Prop) (W : World) (hs : s.size ≤ 4000) (cs : W.cell? ⟨bs, 0, none⟩ = some (.string s)) (es : ¬ E bs) (cm : W.cell? ⟨0, 0, none⟩ = some (.int .i64 mx)) (em : ¬ E 0) :
    Row Tryd.prog 46 #[.pointer (some ⟨bs, 0, none⟩)] encW (whl 0 0 [] (pieces s.data.toList)) E W := by
  intro l J Jx E1 V m g hJ hJx hY h0
  have ds := m.cell es cs
  have dm := m.cell em cm
  have fs : ¬ E1 bs := Gr.free g (cell_lt cs) es
  have fm : ¬ E1 0 := Gr.free g (cell_lt cm) em
  have hlow := hJ.low _ _ _ h0
  have lbs := cell_lt ds
  have lms : 0 < V.heap.size := cell_lt dm
  refine (callsIn_wide (n := 5)).1 ?_
  refine callsIn_of_wp_marks Tryd.func46 rfl trivial ?_ rfl
  simp only [Tryd.ntmps46, List.size_toArray, List.length_cons, List.length_nil, Nat.reduceAdd, Nat.reduceSub, Array.replicate_succ, Array.replicate_zero, List.push_toArray, List.append_toArray, List.nil_append, List.cons_append]
  obtain ⟨R0, hR0⟩ : ∃ R0, (((V.alloc (.cells #[.func (.yield l) #[] #[]] 42)).alloc (.cells #[.pointer none, .slice none 0 0] 77)).alloc (.cells #[.int .i64 0] 3)).alloc (.cells #[.int .i64 0] 3) = R0 := ⟨_, rfl⟩
  have hsR : R0.heap.size = V.heap.size + 4 := by rw [← hR0]; simp
  have mR : ∀ F, Mv F V R0 := fun F => by rw [← hR0]; exact (((Mv.alloc _ _ _).trans' (Mv.alloc _ _ _)).trans' (Mv.alloc _ _ _)).trans' (Mv.alloc _ _ _)
  have rds := (mR (fun _ => False)).cell (fun h => h) ds
  have rdm := (mR (fun _ => False)).cell (fun h => h) dm
  have ry : R0.cell? ⟨V.heap.size, 0, none⟩ = some (.func (.yield l) #[] #[]) := by
    rw [← hR0, World.cell?_alloc_lt _ _ _ (by simp; omega), World.cell?_alloc_lt _ _ _ (by simp; omega), World.cell?_alloc_lt _ _ _ (by simp)]; exact cell_at rfl rfl
  have rB : Bld (V.heap.size + 1) (.slice none 0 0) [] R0 := by
    have h1 := (Bld.new (V.alloc (.cells #[.func (.yield l) #[] #[]] 42))).mv (E := fun _ => False) ((Mv.alloc _ _ (.cells #[.int .i64 0] 3)).trans' (Mv.alloc _ _ (.cells #[.int .i64 0] 3))) (fun _ _ h => h)
    rw [hR0] at h1
    simpa using h1
  have rN : Nm (V.heap.size + 1 + 1) 0 R0 := by
    rw [← hR0]
    refine ⟨?_, ?_⟩
    · rw [World.cell?_alloc_lt _ _ _ (by simp)]; exact cell_at (by simp) rfl
    · rw [World.frozen?_of_block (Below.heap_alloc _ _ _ (by simp))]
      have := World.frozen?_alloc_new ((V.alloc (.cells #[.func (.yield l) #[] #[]] 42)).alloc (.cells #[.pointer none, .slice none 0 0] 77)) #[.int .i64 0] 3 0
      simpa using this
  have rG : Nm (V.heap.size + 1 + 1 + 1) 0 R0 := by
    rw [← hR0]
    refine ⟨cell_at (by simp) rfl, ?_⟩
    have := World.frozen?_alloc_new (((V.alloc (.cells #[.func (.yield l) #[] #[]] 42)).alloc (.cells #[.pointer none, .slice none 0 0] 77)).alloc (.cells #[.int .i64 0] 3)) #[.int .i64 0] 3 0
    simpa using this
  obtain ⟨W0, hW0⟩ : ∃ W0, (R0.setCell ⟨V.heap.size + 1 + 1, 0, none⟩ (.int .i64 0)).setCell ⟨V.heap.size + 1 + 1 + 1, 0, none⟩ (.int .i64 0) = W0 := ⟨_, rfl⟩
  have mW : Mv (fun k => k = V.heap.size + 1 + 1 ∨ k = V.heap.size + 1 + 1 + 1) R0 W0 := by rw [← hW0]; exact ((Mv.refl _ R0).setc (p := ⟨_, 0, none⟩) (.inl (.inl rfl)) _).setc (p := ⟨_, 0, none⟩) (.inl (.inr rfl)) _
  have hs0 : W0.heap.size = V.heap.size + 4 := by rw [← hW0]; simpa using hsR
  have mV : ∀ F : Nat → Prop, Mv F V W0 := fun F => by rw [← hW0]; exact ((mR F).setc (p := ⟨_, 0, none⟩) (.inr (by show _ ≤ V.heap.size + 1 + 1; omega)) _).setc (p := ⟨_, 0, none⟩) (.inr (by show _ ≤ V.heap.size + 1 + 1 + 1; omega)) _
  have kds := (mV (fun _ => False)).cell (fun h => h) ds
  have kdm := (mV (fun _ => False)).cell (fun h => h) dm
  have cy := mW.cell (by show ¬ (V.heap.size = _ ∨ V.heap.size = _); omega) ry
  have kB := rB.mv mW (by rintro k (rfl | hk) h; omega; simp [Value.ownBlock] at hk)
  have n1 : Nm (V.heap.size + 1 + 1) 0 (R0.setCell ⟨V.heap.size + 1 + 1, 0, none⟩ (.int .i64 0)) := rN.set 0
  have g1 : Nm (V.heap.size + 1 + 1 + 1) 0 (R0.setCell ⟨V.heap.size + 1 + 1, 0, none⟩ (.int .i64 0)) := rG.mv (E := fun k => k = V.heap.size + 1 + 1) (Mv.set1 (E := fun k => k = V.heap.size + 1 + 1) rfl _) (by omega)
  have kN : Nm (V.heap.size + 1 + 1) 0 W0 := by rw [← hW0]; exact n1.mv (E := fun k => k = V.heap.size + 1 + 1 + 1) (Mv.set1 (E := fun k => k = V.heap.size + 1 + 1 + 1) rfl _) (by omega)
  have kG : Nm (V.heap.size + 1 + 1 + 1) 0 W0 := by rw [← hW0]; exact g1.set 0
  have kJ : J (whl 0 0 [] (pieces s.data.toList)) E1 W0 := hJ.keep _ _ _ _ h0 (mV _)
  have a1 := rN.c
  have a2 := rN.f
  have a3 := g1.c
  have a4 := g1.f
  gi_wp2_with (first | rw [hR0] | rw [hW0])
  refine ⟨trivial, (callsIn_wide.2 (splitSeq_any s ⟨#[10]⟩ W0)).mono ?_⟩
  rintro e W1 ⟨rfl, hW1⟩
  obtain ⟨EI, hEI⟩ : ∃ EI : Nat → Prop, EI = fun k => E1 k ∨ OT (V.heap.size + 1) (V.heap.size + 1 + 1) (V.heap.size + 1 + 1 + 1) (.slice none 0 0) k := ⟨_, rfl⟩
  have iE : ∀ k, EI k ↔ (E1 k ∨ OT (V.heap.size + 1) (V.heap.size + 1 + 1) (V.heap.size + 1 + 1 + 1) (.slice none 0 0) k) := fun k => by rw [hEI]
  clear hEI
  have nE : ∀ k, ¬ E1 k → (k ≤ V.heap.size ∨ V.heap.size + 4 ≤ k) → ¬ EI k := fun k h1 h2 h => by
    rcases (iE k).1 h with q | (q | q) | q | q
    · exact h1 q
    · omega
    · simp [Value.ownBlock] at q
    · omega
    · omega
  have nE1 : ∀ k, V.heap.size ≤ k → ¬ E1 k := fun k hk h => by have := hlow k h; omega
  have m1 : ∀ F : Nat → Prop, Mv F W0 W1 := fun F => by rw [hW1]; exact ((Mv.alloc _ _ _).trans' (Mv.alloc _ _ _)).trans' (Mv.alloc _ _ _)
  have hs1 : W1.heap.size = W0.heap.size + 3 := by rw [hW1]; simp
  have c0 : W1.cell? ⟨W0.heap.size, 0, none⟩ = some (.string s) := by
    rw [hW1, World.cell?_alloc_lt _ _ _ (by simp; omega), World.cell?_alloc_lt _ _ _ (by simp)]; exact cell_at rfl rfl
  have z0 : W1.frozen? ⟨W0.heap.size, 0, none⟩ = false := by
    rw [hW1, World.frozen?_of_block (Below.heap_alloc _ _ _ (by simp; omega)), World.frozen?_of_block (Below.heap_alloc _ _ _ (by simp))]; exact World.frozen?_alloc_new _ _ _ _
  have c1 : W1.cell? ⟨W0.heap.size + 1, 0, none⟩ = some (.string ⟨#[10]⟩) := by
    rw [hW1, World.cell?_alloc_lt _ _ _ (by simp)]; exact cell_at (by simp) rfl
  have c3 : W1.cell? ⟨W0.heap.size + 2, 0, none⟩ = some (.int .i64 0) := by
    rw [hW1]; exact cell_at (by simp) rfl
  clear hW1
  have cm1 := (m1 (fun _ => False)).cell (fun h => h) kdm
  have ho1 : Own3 (V.heap.size + 1) (V.heap.size + 1) (V.heap.size + 1 + 1) (V.heap.size + 1 + 1 + 1) (.slice none 0 0) 0 0 [] E1 W1 := by
    refine Own3.mv (E := fun _ => False) (W := W0) ⟨kB, kN, kG, by omega, ?_, ?_, ?_, ?_⟩ (m1 _) (fun _ _ h => h)
    · rintro (q | q)
      · omega
      · simp [Value.ownBlock] at q
    · rintro (q | q)
      · omega
      · simp [Value.ownBlock] at q
    · rintro k hk ((q | q) | q | q)
      · have := hlow k hk; omega
      · simp [Value.ownBlock] at q
      · have := hlow k hk; omega
      · have := hlow k hk; omega
    · rintro k ((q | q) | q | q)
      · omega
      · simp [Value.ownBlock] at q
      · omega
      · omega
  have hrow := split1_row s W0.heap.size (W0.heap.size + 1) (W0.heap.size + 2) W0.heap.size mx EI W1 (by omega) (Nat.le_refl _) c0 z0 (nE _ (nE1 _ (by omega)) (by omega)) c1 (nE _ (nE1 _ (by omega)) (by omega)) (by omega) c3 (nE _ (nE1 _ (by omega)) (by omega)) (by omega) cm1 (nE _ fm (by omega)) (by omega)
  have tI : Ter W0.heap.size (WI J (V.heap.size + 1) (V.heap.size + 1) (V.heap.size + 1 + 1) (V.heap.size + 1 + 1 + 1)) := WI.ter hJ (by omega)
  have tX : Ter W0.heap.size (fun (c : Code) E2 W => c = Code.ret ∧ Jx () E2 W) := ((hJx.comp (fun _ => ())).up (by omega)).and (fun c => c = Code.ret)
  have hcount := tot_pieces s.data.toList
  rw [size_list] at hcount
  have hcl := tot_len (pieces s.data.toList)
  have h0I : WI J (V.heap.size + 1) (V.heap.size + 1) (V.heap.size + 1 + 1) (V.heap.size + 1 + 1 + 1) (pieces s.data.toList) EI W1 :=
    ⟨E1, _, 0, 0, [], ⟨iE, by omega, by simp; omega, Nat.le_refl _⟩, hJ.keep _ _ _ _ kJ (m1 _), ho1⟩
  have hrow' : RowB Tryd.prog 75 #[.pointer (some ⟨V.heap.size + 4 + 1, 0, none⟩), .pointer (some ⟨V.heap.size + 4, 0, none⟩), .pointer (some ⟨V.heap.size + 4 + 2, 0, none⟩)] encS (pieces s.data.toList) (V.heap.size + 4) W0.heap.size EI W1 := by
    rw [← hs0]; exact hrow
  gi_wp2_with fail
  refine loop_outB (gf := 75) (lb := #[.pointer (some ⟨V.heap.size + 4 + 1, 0, none⟩), .pointer (some ⟨V.heap.size + 4, 0, none⟩), .pointer (some ⟨V.heap.size + 4 + 2, 0, none⟩)]) rfl (enters_of Tryd.func75 (by kernel_rfl) rfl) W0 (m1 _) (by omega) hrow' (fun _ => rfl) _ _ tI tX h0I ?round ?done ?stop
  case round =>
    rintro l1 hl1 x rest E2 U hi hm hg hEl hrec
    obtain ⟨X, rfl, hXz, hXe⟩ := letters x
    simp only [encS, hXe]
    gi_wp2
    refine ⟨Mv.refl _ _, fun U2 tw => ?_⟩
    obtain ⟨⟨E0, v, n, b, y, ⟨hE, hn1, hn2, hn3⟩, hj, ho⟩, hm2⟩ := tw.go tI hi (Mv.refl _ _) hm (Nat.le_refl _) (by omega) hEl
    have cyU := hm2.cell (nE _ (nE1 _ (Nat.le_refl _)) (.inl (Nat.le_refl _))) cy
    clear hi hm hrec tw
    simp only [List.length_cons, tot] at hn1 hn2
    rw [size_list] at hn2
    have p1 := ho.nm.c
    have p2 := ho.nm.f
    have p3 := ho.gm.c
    obtain ⟨n', hn'⟩ : ∃ n', n + 1 = n' := ⟨_, rfl⟩
    obtain ⟨U3, hU3⟩ : ∃ U3, U2.setCell ⟨V.heap.size + 1 + 1, 0, none⟩ (.int .i64 ((n : Int) + 1)) = U3 := ⟨_, rfl⟩
    have o3 : Own3 (V.heap.size + 1) (V.heap.size + 1) (V.heap.size + 1 + 1) (V.heap.size + 1 + 1 + 1) v n' b y E0 U3 := by
      rw [← hU3, ← hn']; exact ho.setN (n + 1)
    have mo3 : Mv (OT (V.heap.size + 1) (V.heap.size + 1 + 1) (V.heap.size + 1 + 1 + 1) v) U2 U3 := by rw [← hU3]; exact Mv.set1 (.inr (.inl rfl)) _
    have p4 := o3.gm.c
    by_cases hb0 : b = 0
    · subst hb0
      have hlo := fun w => isLeftOut_any X w
      cases hlt : lout X.data.toList
      · rw [hlt] at hlo
        have hlo' : Hid (∀ w, Calls Tryd.prog 48 #[.string X] w fun e w' => e = .returned (.bool false) ∧ Below w.heap.size w w') := hlo
        have hwE : Lib.hasSuffix X.data.toList [92] = false → whl n 0 y (X.data.toList :: rest) = (n', y ++ X.data.toList) :: whl n' 0 [] rest := fun h => by rw [← hn']; exact whl_end0 n y _ rest hlt h
        have hwO : Lib.hasSuffix X.data.toList [92] = true → whl n 0 y (X.data.toList :: rest) = whl n' n' (y ++ Lib.trimSuffix X.data.toList [92] ++ [32]) rest := fun h => by rw [← hn']; exact whl_on0 n y _ rest hlt h
        clear hlo hlt
        gi_wp2_with (rw [hU3])
        refine ⟨trivial, (CallsIn.inRound l1 (callsIn_wide.2 (hlo'.out U3))).mono ?_⟩
        rintro e U4 ⟨rfl, hb4⟩
        have o4 := o3.mv (Mv.below (E := fun _ => False) hb4) (fun _ _ h => h)
        obtain ⟨U5, hU5⟩ : ∃ U5, U4.setCell ⟨V.heap.size + 1 + 1 + 1, 0, none⟩ (.int .i64 (n' : Int)) = U5 := ⟨_, rfl⟩
        have o5 := o4.setG n'
        rw [hU5] at o5
        have mo5 : Mv (OT (V.heap.size + 1) (V.heap.size + 1 + 1) (V.heap.size + 1 + 1 + 1) v) U2 U5 := by rw [← hU5]; exact (mo3.trans' (Mv.below hb4)).trans' (Mv.set1 (.inr (.inr rfl)) _)
        have p5 := o4.gm.c
        have p6 := o4.gm.f
        have p7 := o4.nm.c
        have q1 := o5.gm.c
        have hCS := fun w => Tryd.strings_CutSuffix X ⟨#[92]⟩ w (by omega)
        rw [show (⟨#[92]⟩ : ByteArray).data.toList = [92] from rfl] at hCS
        have hEl5 : ∀ k, E0 k → k < U5.heap.size := fun k hk => Nat.lt_of_lt_of_le (hJ.low _ _ _ hj k hk) mo5.size
        have hVU : V.heap.size + 4 ≤ U5.heap.size := by have := mo5.size; have := hm2.size; omega
        have hU25 := mo5.size
        have hj5 := hJ.keep _ _ _ _ hj (mo5.mono (fun k _ hk => ⟨fun e => o5.dis k e hk, by have := o5.low k hk; omega⟩))
        cases hsf : Lib.hasSuffix X.data.toList [92]
        · have hHl := trimS_no hsf
          rw [hsf, hHl, Lib.mk_data] at hCS
          have hCS' : Hid (∀ w, Calls Tryd.prog 49 #[.string X, .string ⟨#[92]⟩] w fun e w' => e = .returned (.tuple #[.string X, .bool false]) ∧ w' = w) := hCS
          rw [hwE hsf] at hj5
          clear hCS hwE hwO hHl hsf
          gi_wp2_with (rw [hU5])
          refine ⟨trivial, (CallsIn.inRound l1 (callsIn_wide.2 (hCS'.out _))).mono ?_⟩
          rintro e w1 ⟨rfl, rfl⟩
          gi_wp2_with fail
          refine ⟨trivial, (CallsIn.inRound l1 (callsIn_wide.2 (writeString_mv _ v y X _ o5.bld (by omega) (by omega)))).mono ?_⟩
          rintro e U6 ⟨⟨r, rfl⟩, hw⟩
          obtain ⟨v6, o6, mo6, hot6⟩ := o5.wrote hEl5 (by omega) hw
          gi_wp2_with fail
          refine wpIn_region_any (by kernel_rfl) ?_
          obtain ⟨D6, hD6⟩ : ∃ D6, U6.drew = D6 := ⟨_, rfl⟩
          change wpAnyIn _ _ _ _ _ _ _ _ _ (World.drew U6)
          rw [hD6]
          have mD : ∀ F : Nat → Prop, Mv F U6 D6 := fun F => by rw [← hD6]; exact Mv.drew _ _
          have o7 := o6.mv (mD (fun _ => False)) (fun _ _ h => h)
          have mo7 : Mv (OT (V.heap.size + 1) (V.heap.size + 1 + 1) (V.heap.size + 1 + 1 + 1) v) U2 D6 := (mo5.trans' mo6).trans' (mD _)
          have hot7 : ∀ k, OT (V.heap.size + 1) (V.heap.size + 1 + 1) (V.heap.size + 1 + 1 + 1) v6 k → OT (V.heap.size + 1) (V.heap.size + 1 + 1) (V.heap.size + 1 + 1 + 1) v k ∨ U2.heap.size ≤ k := fun k hk => (hot6 k hk).imp id (fun q => by omega)
          have cyD := mo7.cell (fun h => by have := ho.low _ h; simp only at this; omega) cyU
          have gcD := o7.gm.c
          have hxl : (y ++ X.data.toList).length ≤ 4000000 := by rw [List.length_append, size_list]; omega
          have hStr : Hid (Calls Tryd.prog 31 #[.pointer (some ⟨V.heap.size + 1, 0, none⟩)] D6 fun e w' => e = .returned (.string ⟨(y ++ X.data.toList).toArray⟩) ∧ Mv (Ow (V.heap.size + 1) v6) D6 w' ∧ w'.heap[V.heap.size + 1]? = D6.heap[V.heap.size + 1]?) := string_mv _ v6 _ D6 o7.bld hxl
          have hjD := hJ.keep _ _ _ _ (hJ.keep _ _ _ _ hj5 (mo6.mono (fun k _ hk => ⟨fun e => o5.dis k e hk, by have := o5.low k hk; omega⟩))) (mD _)
          have hAft : ∀ U7, Mv (Ow (V.heap.size + 1) v6) D6 U7 →
              U7.cell? ⟨V.heap.size, 0, none⟩ = some (.func (.yield l) #[] #[]) ∧ U7.cell? ⟨V.heap.size + 1 + 1 + 1, 0, none⟩ = some (.int .i64 n') ∧ J ((n', y ++ X.data.toList) :: whl n' 0 [] rest) E0 U7 := fun U7 m7 =>
            ⟨m7.cell (fun h => by have := o7.low _ (.inl h); simp only at this; omega) cyD, m7.cell o7.og gcD, hJ.keep _ _ _ _ hjD (m7.mono (fun k _ hk => ⟨fun e => o7.dis k e (.inl hk), by have := o7.low k (.inl hk); omega⟩))⟩
          refine wpAnyIn_ready (rs := [0, 1, 2]) (by kernel_rfl) (by simp) ?_
          refine AllReadyIn.cons rfl (fun K hK => ?_) ?_
          · go_simp
            refine hK _ _ ?_
            clear hK K
            refine wpAnyIn_ready (rs := [1, 2]) (by kernel_rfl) (by simp) ?_
            refine AllReadyIn.cons rfl (fun K hK => ?_) ?_
            · go_simp
              refine hK _ _ ?_
              clear hK K
              refine wpAnyIn_ready (rs := [2]) (by kernel_rfl) (by simp) ?_
              refine AllReadyIn.cons rfl (fun K hK => ?_) AllReadyIn.nil
              go_simp
              refine ⟨trivial, (CallsIn.inRound l1 (callsIn_wide.2 hStr.out)).mono ?_⟩
              rintro e U7 ⟨rfl, m7, hb7⟩
              obtain ⟨cy7, gc7, hj7⟩ := hAft U7 m7
              obtain ⟨fn, tmps, assign, body, hy, hR⟩ := hY _ _ E0 U7 hj7
              dsimp only [encW] at hy
              go_simp
              refine hK _ _ ?_
              clear hK K
              refine wpAnyIn_ready (rs := [3]) (by kernel_rfl) (by simp) ?_
              refine AllReadyIn.cons rfl (fun K hK => ?_) AllReadyIn.nil
              go_simp
              refine (wide_round hR).mono ?_
              rintro e U8 ⟨m8, (⟨rfl, E3, g3, hj3⟩ | ⟨rfl, E3, g3, hj3⟩)⟩
              · have tk := taken hE mo7 hot7 o7 m7 hb7 m8 g3
                obtain ⟨pp, hpp⟩ := tk.at0
                go_simp
                refine hK _ _ ?_
                clear hK K
                refine wpAnyIn_ready (rs := [4]) (by kernel_rfl) (by simp) ?_
                refine AllReadyIn.cons rfl (fun K hK => ?_) AllReadyIn.nil
                go_simp
                refine hK _ _ ?_
                clear hK K
                refine wpAnyIn_done (by kernel_rfl) ?_ _
                gi_wp2_with fail
                refine ⟨trivial, (CallsIn.inRound l1 (callsIn_wide.2 (reset_mv _ pp v6 U8 hpp))).mono ?_⟩
                rintro e U9 ⟨⟨r9, rfl⟩, hbl, m9⟩
                have g9 := tk.reset (by omega) m9
                have g9c := g9.c
                have g9f := g9.f
                gi_wp2_with fail
                exact tk.done hJ (Nat.le_succ _) (by omega) (by omega) (by omega) ⟨by omega, by omega, by omega⟩ hbl m9 hj3 (by omega) (by omega)
              · have tk := taken hE mo7 hot7 o7 m7 hb7 m8 g3
                go_simp
                refine hK _ _ ?_
                clear hK K
                refine wpAnyIn_ready (rs := [4]) (by kernel_rfl) (by simp) ?_
                refine AllReadyIn.cons rfl (fun K hK => ?_) AllReadyIn.nil
                go_simp
                refine hK _ _ ?_
                clear hK K
                refine wpAnyIn_done (by kernel_rfl) ?_ _
                gi_wp2_with fail
                exact ⟨tk.mv, E3, tk.gr, rfl, hj3⟩
            refine AllReadyIn.cons rfl (fun K hK => ?_) AllReadyIn.nil
            go_simp
            refine ⟨trivial, (CallsIn.inRound l1 (callsIn_wide.2 hStr.out)).mono ?_⟩
            rintro e U7 ⟨rfl, m7, hb7⟩
            obtain ⟨cy7, gc7, hj7⟩ := hAft U7 m7
            obtain ⟨fn, tmps, assign, body, hy, hR⟩ := hY _ _ E0 U7 hj7
            dsimp only [encW] at hy
            go_simp
            refine hK _ _ ?_
            clear hK K
            refine wpAnyIn_ready (rs := [1]) (by kernel_rfl) (by simp) ?_
            refine AllReadyIn.cons rfl (fun K hK => ?_) AllReadyIn.nil
            go_simp
            refine hK _ _ ?_
            clear hK K
            refine wpAnyIn_ready (rs := [3]) (by kernel_rfl) (by simp) ?_
            refine AllReadyIn.cons rfl (fun K hK => ?_) AllReadyIn.nil
            go_simp
            refine (wide_round hR).mono ?_
            rintro e U8 ⟨m8, (⟨rfl, E3, g3, hj3⟩ | ⟨rfl, E3, g3, hj3⟩)⟩
            · have tk := taken hE mo7 hot7 o7 m7 hb7 m8 g3
              obtain ⟨pp, hpp⟩ := tk.at0
              go_simp
              refine hK _ _ ?_
              clear hK K
              refine wpAnyIn_ready (rs := [4]) (by kernel_rfl) (by simp) ?_
              refine AllReadyIn.cons rfl (fun K hK => ?_) AllReadyIn.nil
              go_simp
              refine hK _ _ ?_
              clear hK K
              refine wpAnyIn_done (by kernel_rfl) ?_ _
              gi_wp2_with fail
              refine ⟨trivial, (CallsIn.inRound l1 (callsIn_wide.2 (reset_mv _ pp v6 U8 hpp))).mono ?_⟩
              rintro e U9 ⟨⟨r9, rfl⟩, hbl, m9⟩
              have g9 := tk.reset (by omega) m9
              have g9c := g9.c
              have g9f := g9.f
              gi_wp2_with fail
              exact tk.done hJ (Nat.le_succ _) (by omega) (by omega) (by omega) ⟨by omega, by omega, by omega⟩ hbl m9 hj3 (by omega) (by omega)
            · have tk := taken hE mo7 hot7 o7 m7 hb7 m8 g3
              go_simp
              refine hK _ _ ?_
              clear hK K
              refine wpAnyIn_ready (rs := [4]) (by kernel_rfl) (by simp) ?_
              refine AllReadyIn.cons rfl (fun K hK => ?_) AllReadyIn.nil
              go_simp
              refine hK _ _ ?_
              clear hK K
              refine wpAnyIn_done (by kernel_rfl) ?_ _
              gi_wp2_with fail
              exact ⟨tk.mv, E3, tk.gr, rfl, hj3⟩
          refine AllReadyIn.cons rfl (fun K hK => ?_) ?_
          · go_simp
            refine hK _ _ ?_
            clear hK K
            refine wpAnyIn_ready (rs := [0, 2]) (by kernel_rfl) (by simp) ?_
            refine AllReadyIn.cons rfl (fun K hK => ?_) ?_
            · go_simp
              refine hK _ _ ?_
              clear hK K
              refine wpAnyIn_ready (rs := [2]) (by kernel_rfl) (by simp) ?_
              refine AllReadyIn.cons rfl (fun K hK => ?_) AllReadyIn.nil
              go_simp
              refine ⟨trivial, (CallsIn.inRound l1 (callsIn_wide.2 hStr.out)).mono ?_⟩
              rintro e U7 ⟨rfl, m7, hb7⟩
              obtain ⟨cy7, gc7, hj7⟩ := hAft U7 m7
              obtain ⟨fn, tmps, assign, body, hy, hR⟩ := hY _ _ E0 U7 hj7
              dsimp only [encW] at hy
              go_simp
              refine hK _ _ ?_
              clear hK K
              refine wpAnyIn_ready (rs := [3]) (by kernel_rfl) (by simp) ?_
              refine AllReadyIn.cons rfl (fun K hK => ?_) AllReadyIn.nil
              go_simp
              refine (wide_round hR).mono ?_
              rintro e U8 ⟨m8, (⟨rfl, E3, g3, hj3⟩ | ⟨rfl, E3, g3, hj3⟩)⟩
              · have tk := taken hE mo7 hot7 o7 m7 hb7 m8 g3
                obtain ⟨pp, hpp⟩ := tk.at0
                go_simp
                refine hK _ _ ?_
                clear hK K
                refine wpAnyIn_ready (rs := [4]) (by kernel_rfl) (by simp) ?_
                refine AllReadyIn.cons rfl (fun K hK => ?_) AllReadyIn.nil
                go_simp
                refine hK _ _ ?_
                clear hK K
                refine wpAnyIn_done (by kernel_rfl) ?_ _
                gi_wp2_with fail
                refine ⟨trivial, (CallsIn.inRound l1 (callsIn_wide.2 (reset_mv _ pp v6 U8 hpp))).mono ?_⟩
                rintro e U9 ⟨⟨r9, rfl⟩, hbl, m9⟩
                have g9 := tk.reset (by omega) m9
                have g9c := g9.c
                have g9f := g9.f
                gi_wp2_with fail
                exact tk.done hJ (Nat.le_succ _) (by omega) (by omega) (by omega) ⟨by omega, by omega, by omega⟩ hbl m9 hj3 (by omega) (by omega)
              · have tk := taken hE mo7 hot7 o7 m7 hb7 m8 g3
                go_simp
                refine hK _ _ ?_
                clear hK K
                refine wpAnyIn_ready (rs := [4]) (by kernel_rfl) (by simp) ?_
                refine AllReadyIn.cons rfl (fun K hK => ?_) AllReadyIn.nil
                go_simp
                refine hK _ _ ?_
                clear hK K
                refine wpAnyIn_done (by kernel_rfl) ?_ _
                gi_wp2_with fail
                exact ⟨tk.mv, E3, tk.gr, rfl, hj3⟩
            refine AllReadyIn.cons rfl (fun K hK => ?_) AllReadyIn.nil
            go_simp
            refine ⟨trivial, (CallsIn.inRound l1 (callsIn_wide.2 hStr.out)).mono ?_⟩
            rintro e U7 ⟨rfl, m7, hb7⟩
            obtain ⟨cy7, gc7, hj7⟩ := hAft U7 m7
            obtain ⟨fn, tmps, assign, body, hy, hR⟩ := hY _ _ E0 U7 hj7
            dsimp only [encW] at hy
            go_simp
            refine hK _ _ ?_
            clear hK K
            refine wpAnyIn_ready (rs := [0]) (by kernel_rfl) (by simp) ?_
            refine AllReadyIn.cons rfl (fun K hK => ?_) AllReadyIn.nil
            go_simp
            refine hK _ _ ?_
            clear hK K
            refine wpAnyIn_ready (rs := [3]) (by kernel_rfl) (by simp) ?_
            refine AllReadyIn.cons rfl (fun K hK => ?_) AllReadyIn.nil
            go_simp
            refine (wide_round hR).mono ?_
            rintro e U8 ⟨m8, (⟨rfl, E3, g3, hj3⟩ | ⟨rfl, E3, g3, hj3⟩)⟩
            · have tk := taken hE mo7 hot7 o7 m7 hb7 m8 g3
              obtain ⟨pp, hpp⟩ := tk.at0
              go_simp
              refine hK _ _ ?_
              clear hK K
              refine wpAnyIn_ready (rs := [4]) (by kernel_rfl) (by simp) ?_
              refine AllReadyIn.cons rfl (fun K hK => ?_) AllReadyIn.nil
              go_simp
              refine hK _ _ ?_
              clear hK K
              refine wpAnyIn_done (by kernel_rfl) ?_ _
              gi_wp2_with fail
              refine ⟨trivial, (CallsIn.inRound l1 (callsIn_wide.2 (reset_mv _ pp v6 U8 hpp))).mono ?_⟩
              rintro e U9 ⟨⟨r9, rfl⟩, hbl, m9⟩
              have g9 := tk.reset (by omega) m9
              have g9c := g9.c
              have g9f := g9.f
              gi_wp2_with fail
              exact tk.done hJ (Nat.le_succ _) (by omega) (by omega) (by omega) ⟨by omega, by omega, by omega⟩ hbl m9 hj3 (by omega) (by omega)
            · have tk := taken hE mo7 hot7 o7 m7 hb7 m8 g3
              go_simp
              refine hK _ _ ?_
              clear hK K
              refine wpAnyIn_ready (rs := [4]) (by kernel_rfl) (by simp) ?_
              refine AllReadyIn.cons rfl (fun K hK => ?_) AllReadyIn.nil
              go_simp
              refine hK _ _ ?_
              clear hK K
              refine wpAnyIn_done (by kernel_rfl) ?_ _
              gi_wp2_with fail
              exact ⟨tk.mv, E3, tk.gr, rfl, hj3⟩
          refine AllReadyIn.cons rfl (fun K hK => ?_) AllReadyIn.nil
          go_simp
          refine ⟨trivial, (CallsIn.inRound l1 (callsIn_wide.2 hStr.out)).mono ?_⟩
          rintro e U7 ⟨rfl, m7, hb7⟩
          obtain ⟨cy7, gc7, hj7⟩ := hAft U7 m7
          obtain ⟨fn, tmps, assign, body, hy, hR⟩ := hY _ _ E0 U7 hj7
          dsimp only [encW] at hy
          go_simp
          refine hK _ _ ?_
          clear hK K
          refine wpAnyIn_ready (rs := [0, 1]) (by kernel_rfl) (by simp) ?_
          refine AllReadyIn.cons rfl (fun K hK => ?_) ?_
          · go_simp
            refine hK _ _ ?_
            clear hK K
            refine wpAnyIn_ready (rs := [1]) (by kernel_rfl) (by simp) ?_
            refine AllReadyIn.cons rfl (fun K hK => ?_) AllReadyIn.nil
            go_simp
            refine hK _ _ ?_
            clear hK K
            refine wpAnyIn_ready (rs := [3]) (by kernel_rfl) (by simp) ?_
            refine AllReadyIn.cons rfl (fun K hK => ?_) AllReadyIn.nil
            go_simp
            refine (wide_round hR).mono ?_
            rintro e U8 ⟨m8, (⟨rfl, E3, g3, hj3⟩ | ⟨rfl, E3, g3, hj3⟩)⟩
            · have tk := taken hE mo7 hot7 o7 m7 hb7 m8 g3
              obtain ⟨pp, hpp⟩ := tk.at0
              go_simp
              refine hK _ _ ?_
              clear hK K
              refine wpAnyIn_ready (rs := [4]) (by kernel_rfl) (by simp) ?_
              refine AllReadyIn.cons rfl (fun K hK => ?_) AllReadyIn.nil
              go_simp
              refine hK _ _ ?_
              clear hK K
              refine wpAnyIn_done (by kernel_rfl) ?_ _
              gi_wp2_with fail
              refine ⟨trivial, (CallsIn.inRound l1 (callsIn_wide.2 (reset_mv _ pp v6 U8 hpp))).mono ?_⟩
              rintro e U9 ⟨⟨r9, rfl⟩, hbl, m9⟩
              have g9 := tk.reset (by omega) m9
              have g9c := g9.c
              have g9f := g9.f
              gi_wp2_with fail
              exact tk.done hJ (Nat.le_succ _) (by omega) (by omega) (by omega) ⟨by omega, by omega, by omega⟩ hbl m9 hj3 (by omega) (by omega)
            · have tk := taken hE mo7 hot7 o7 m7 hb7 m8 g3
              go_simp
              refine hK _ _ ?_
              clear hK K
              refine wpAnyIn_ready (rs := [4]) (by kernel_rfl) (by simp) ?_
              refine AllReadyIn.cons rfl (fun K hK => ?_) AllReadyIn.nil
              go_simp
              refine hK _ _ ?_
              clear hK K
              refine wpAnyIn_done (by kernel_rfl) ?_ _
              gi_wp2_with fail
              exact ⟨tk.mv, E3, tk.gr, rfl, hj3⟩
          refine AllReadyIn.cons rfl (fun K hK => ?_) AllReadyIn.nil
          go_simp
          refine hK _ _ ?_
          clear hK K
          refine wpAnyIn_ready (rs := [0]) (by kernel_rfl) (by simp) ?_
          refine AllReadyIn.cons rfl (fun K hK => ?_) AllReadyIn.nil
          go_simp
          refine hK _ _ ?_
          clear hK K
          refine wpAnyIn_ready (rs := [3]) (by kernel_rfl) (by simp) ?_
          refine AllReadyIn.cons rfl (fun K hK => ?_) AllReadyIn.nil
          go_simp
          refine (wide_round hR).mono ?_
          rintro e U8 ⟨m8, (⟨rfl, E3, g3, hj3⟩ | ⟨rfl, E3, g3, hj3⟩)⟩
          · have tk := taken hE mo7 hot7 o7 m7 hb7 m8 g3
            obtain ⟨pp, hpp⟩ := tk.at0
            go_simp
            refine hK _ _ ?_
            clear hK K
            refine wpAnyIn_ready (rs := [4]) (by kernel_rfl) (by simp) ?_
            refine AllReadyIn.cons rfl (fun K hK => ?_) AllReadyIn.nil
            go_simp
            refine hK _ _ ?_
            clear hK K
            refine wpAnyIn_done (by kernel_rfl) ?_ _
            gi_wp2_with fail
            refine ⟨trivial, (CallsIn.inRound l1 (callsIn_wide.2 (reset_mv _ pp v6 U8 hpp))).mono ?_⟩
            rintro e U9 ⟨⟨r9, rfl⟩, hbl, m9⟩
            have g9 := tk.reset (by omega) m9
            have g9c := g9.c
            have g9f := g9.f
            gi_wp2_with fail
            exact tk.done hJ (Nat.le_succ _) (by omega) (by omega) (by omega) ⟨by omega, by omega, by omega⟩ hbl m9 hj3 (by omega) (by omega)
          · have tk := taken hE mo7 hot7 o7 m7 hb7 m8 g3
            go_simp
            refine hK _ _ ?_
            clear hK K
            refine wpAnyIn_ready (rs := [4]) (by kernel_rfl) (by simp) ?_
            refine AllReadyIn.cons rfl (fun K hK => ?_) AllReadyIn.nil
            go_simp
            refine hK _ _ ?_
            clear hK K
            refine wpAnyIn_done (by kernel_rfl) ?_ _
            gi_wp2_with fail
            exact ⟨tk.mv, E3, tk.gr, rfl, hj3⟩
        · have hHz := trimS_len hsf
          rw [hwO hsf] at hj5
          obtain ⟨H, hHl, hHs, hHe⟩ := letters (Lib.trimSuffix X.data.toList [92])
          rw [hsf, hHe] at hCS
          rw [← hHs, size_list] at hHz
          rw [← hHl] at hj5
          have hCS' : Hid (∀ w, Calls Tryd.prog 49 #[.string X, .string ⟨#[92]⟩] w fun e w' => e = .returned (.tuple #[.string H, .bool true]) ∧ w' = w) := hCS
          clear hCS hwE hwO hHl hHs hHe hsf
          gi_wp2_with (rw [hU5])
          refine ⟨trivial, (CallsIn.inRound l1 (callsIn_wide.2 (hCS'.out _))).mono ?_⟩
          rintro e w1 ⟨rfl, rfl⟩
          gi_wp2_with fail
          refine ⟨trivial, (CallsIn.inRound l1 (callsIn_wide.2 (writeString_mv _ v y H _ o5.bld (by omega) (by omega)))).mono ?_⟩
          rintro e U6 ⟨⟨r, rfl⟩, hw⟩
          obtain ⟨v6, o6, mo6, hot6⟩ := o5.wrote hEl5 (by omega) hw
          have hU56 := mo6.size
          have hEl6 : ∀ k, E0 k → k < U6.heap.size := fun k hk => Nat.lt_of_lt_of_le (hEl5 k hk) hU56
          have hwb := writeByte_mv _ v6 _ 32 U6 o6.bld (by rw [List.length_append, size_list]; omega)
          rw [show (((32 : UInt8).toNat : Nat) : Int) = 32 from rfl] at hwb
          gi_wp2_with fail
          refine ⟨trivial, (CallsIn.inRound l1 (callsIn_wide.2 hwb)).mono ?_⟩
          rintro e U7 ⟨rfl, hw7⟩
          obtain ⟨v7, o7, mo7, hot7⟩ := o6.wrote hEl6 (by omega) hw7
          have hj7 := hJ.keep _ _ _ _ (hJ.keep _ _ _ _ hj5 (mo6.mono (fun k _ hk => ⟨fun e => o5.dis k e hk, by have := o5.low k hk; omega⟩))) (mo7.mono (fun k _ hk => ⟨fun e => o6.dis k e hk, by have := o6.low k hk; omega⟩))
          have hG : Gr (OT (V.heap.size + 1) (V.heap.size + 1 + 1) (V.heap.size + 1 + 1 + 1) v) U2 (OT (V.heap.size + 1) (V.heap.size + 1 + 1) (V.heap.size + 1 + 1 + 1) v6) := fun k hk => (hot6 k hk).imp id (fun q => by omega)
          gi_wp2_with fail
          refine WI.on hE ((mo5.trans' mo6).trans hG mo7) (fun k hk => ?_) o7 hj7 (by omega) (by rw [List.length_append, List.length_append, size_list]; simp; omega) (by omega)
          rcases hot7 k hk with q | q
          · exact hG k q
          · exact .inr (by omega)
      · rw [hlt] at hlo
        have hlo' : Hid (∀ w, Calls Tryd.prog 48 #[.string X] w fun e w' => e = .returned (.bool true) ∧ Below w.heap.size w w') := hlo
        have hw0 : whl n 0 y (X.data.toList :: rest) = whl n' 0 y rest := by rw [← hn']; exact whl_out n y _ rest hlt
        rw [hw0] at hj
        clear hlo hlt hw0
        gi_wp2_with (rw [hU3])
        refine ⟨trivial, (CallsIn.inRound l1 (callsIn_wide.2 (hlo'.out U3))).mono ?_⟩
        rintro e U4 ⟨rfl, hb4⟩
        have o4 := o3.mv (Mv.below (E := fun _ => False) hb4) (fun _ _ h => h)
        have mo4 : Mv (OT (V.heap.size + 1) (V.heap.size + 1 + 1) (V.heap.size + 1 + 1 + 1) v) U2 U4 := mo3.trans' (Mv.below hb4)
        have hj4 := hJ.keep _ _ _ _ hj (mo4.mono (fun k _ hk => ⟨fun e => o4.dis k e hk, by have := o4.low k hk; omega⟩))
        gi_wp2_with fail
        exact WI.on hE mo4 (fun k hk => .inl hk) o4 hj4 (by omega) (by omega) (by omega)
    · have hwE : Lib.hasSuffix X.data.toList [92] = false → whl n b y (X.data.toList :: rest) = (b, y ++ X.data.toList) :: whl n' 0 [] rest := fun h => by rw [← hn']; exact whl_end n b y _ rest hb0 h
      have hwO : Lib.hasSuffix X.data.toList [92] = true → whl n b y (X.data.toList :: rest) = whl n' b (y ++ Lib.trimSuffix X.data.toList [92] ++ [32]) rest := fun h => by rw [← hn']; exact whl_on n b y _ rest hb0 h
      have hbI : ((b : Int) == 0) = false := by simp; omega
      have o5 := o3
      have mo5 := mo3
      have hU5 : U3 = U3 := rfl
      clear hU5 p4
      revert o5 mo5
      generalize hU35 : U3 = U5
      intro o5 mo5
      rw [hU35] at hU3
      clear hU35 o3 mo3
      have q1 := o5.gm.c
      have hCS := fun w => Tryd.strings_CutSuffix X ⟨#[92]⟩ w (by omega)
      rw [show (⟨#[92]⟩ : ByteArray).data.toList = [92] from rfl] at hCS
      have hEl5 : ∀ k, E0 k → k < U5.heap.size := fun k hk => Nat.lt_of_lt_of_le (hJ.low _ _ _ hj k hk) mo5.size
      have hVU : V.heap.size + 4 ≤ U5.heap.size := by have := mo5.size; have := hm2.size; omega
      have hU25 := mo5.size
      have hj5 := hJ.keep _ _ _ _ hj (mo5.mono (fun k _ hk => ⟨fun e => o5.dis k e hk, by have := o5.low k hk; omega⟩))
      cases hsf : Lib.hasSuffix X.data.toList [92]
      · have hHl := trimS_no hsf
        rw [hsf, hHl, Lib.mk_data] at hCS
        have hCS' : Hid (∀ w, Calls Tryd.prog 49 #[.string X, .string ⟨#[92]⟩] w fun e w' => e = .returned (.tuple #[.string X, .bool false]) ∧ w' = w) := hCS
        rw [hwE hsf] at hj5
        clear hCS hwE hwO hHl hsf
        gi_wp2_with (rw [hU3])
        refine ⟨trivial, (CallsIn.inRound l1 (callsIn_wide.2 (hCS'.out _))).mono ?_⟩
        rintro e w1 ⟨rfl, rfl⟩
        gi_wp2_with fail
        refine ⟨trivial, (CallsIn.inRound l1 (callsIn_wide.2 (writeString_mv _ v y X _ o5.bld (by omega) (by omega)))).mono ?_⟩
        rintro e U6 ⟨⟨r, rfl⟩, hw⟩
        obtain ⟨v6, o6, mo6, hot6⟩ := o5.wrote hEl5 (by omega) hw
        gi_wp2_with fail
        refine wpIn_region_any (by kernel_rfl) ?_
        obtain ⟨D6, hD6⟩ : ∃ D6, U6.drew = D6 := ⟨_, rfl⟩
        change wpAnyIn _ _ _ _ _ _ _ _ _ (World.drew U6)
        rw [hD6]
        have mD : ∀ F : Nat → Prop, Mv F U6 D6 := fun F => by rw [← hD6]; exact Mv.drew _ _
        have o7 := o6.mv (mD (fun _ => False)) (fun _ _ h => h)
        have mo7 : Mv (OT (V.heap.size + 1) (V.heap.size + 1 + 1) (V.heap.size + 1 + 1 + 1) v) U2 D6 := (mo5.trans' mo6).trans' (mD _)
        have hot7 : ∀ k, OT (V.heap.size + 1) (V.heap.size + 1 + 1) (V.heap.size + 1 + 1 + 1) v6 k → OT (V.heap.size + 1) (V.heap.size + 1 + 1) (V.heap.size + 1 + 1 + 1) v k ∨ U2.heap.size ≤ k := fun k hk => (hot6 k hk).imp id (fun q => by omega)
        have cyD := mo7.cell (fun h => by have := ho.low _ h; simp only at this; omega) cyU
        have gcD := o7.gm.c
        have hxl : (y ++ X.data.toList).length ≤ 4000000 := by rw [List.length_append, size_list]; omega
        have hStr : Hid (Calls Tryd.prog 31 #[.pointer (some ⟨V.heap.size + 1, 0, none⟩)] D6 fun e w' => e = .returned (.string ⟨(y ++ X.data.toList).toArray⟩) ∧ Mv (Ow (V.heap.size + 1) v6) D6 w' ∧ w'.heap[V.heap.size + 1]? = D6.heap[V.heap.size + 1]?) := string_mv _ v6 _ D6 o7.bld hxl
        have hjD := hJ.keep _ _ _ _ (hJ.keep _ _ _ _ hj5 (mo6.mono (fun k _ hk => ⟨fun e => o5.dis k e hk, by have := o5.low k hk; omega⟩))) (mD _)
        have hAft : ∀ U7, Mv (Ow (V.heap.size + 1) v6) D6 U7 →
            U7.cell? ⟨V.heap.size, 0, none⟩ = some (.func (.yield l) #[] #[]) ∧ U7.cell? ⟨V.heap.size + 1 + 1 + 1, 0, none⟩ = some (.int .i64 b) ∧ J ((b, y ++ X.data.toList) :: whl n' 0 [] rest) E0 U7 := fun U7 m7 =>
          ⟨m7.cell (fun h => by have := o7.low _ (.inl h); simp only at this; omega) cyD, m7.cell o7.og gcD, hJ.keep _ _ _ _ hjD (m7.mono (fun k _ hk => ⟨fun e => o7.dis k e (.inl hk), by have := o7.low k (.inl hk); omega⟩))⟩
        refine wpAnyIn_ready (rs := [0, 1, 2]) (by kernel_rfl) (by simp) ?_
        refine AllReadyIn.cons rfl (fun K hK => ?_) ?_
        · go_simp
          refine hK _ _ ?_
          clear hK K
          refine wpAnyIn_ready (rs := [1, 2]) (by kernel_rfl) (by simp) ?_
          refine AllReadyIn.cons rfl (fun K hK => ?_) ?_
          · go_simp
            refine hK _ _ ?_
            clear hK K
            refine wpAnyIn_ready (rs := [2]) (by kernel_rfl) (by simp) ?_
            refine AllReadyIn.cons rfl (fun K hK => ?_) AllReadyIn.nil
            go_simp
            refine ⟨trivial, (CallsIn.inRound l1 (callsIn_wide.2 hStr.out)).mono ?_⟩
            rintro e U7 ⟨rfl, m7, hb7⟩
            obtain ⟨cy7, gc7, hj7⟩ := hAft U7 m7
            obtain ⟨fn, tmps, assign, body, hy, hR⟩ := hY _ _ E0 U7 hj7
            dsimp only [encW] at hy
            go_simp
            refine hK _ _ ?_
            clear hK K
            refine wpAnyIn_ready (rs := [3]) (by kernel_rfl) (by simp) ?_
            refine AllReadyIn.cons rfl (fun K hK => ?_) AllReadyIn.nil
            go_simp
            refine (wide_round hR).mono ?_
            rintro e U8 ⟨m8, (⟨rfl, E3, g3, hj3⟩ | ⟨rfl, E3, g3, hj3⟩)⟩
            · have tk := taken hE mo7 hot7 o7 m7 hb7 m8 g3
              obtain ⟨pp, hpp⟩ := tk.at0
              go_simp
              refine hK _ _ ?_
              clear hK K
              refine wpAnyIn_ready (rs := [4]) (by kernel_rfl) (by simp) ?_
              refine AllReadyIn.cons rfl (fun K hK => ?_) AllReadyIn.nil
              go_simp
              refine hK _ _ ?_
              clear hK K
              refine wpAnyIn_done (by kernel_rfl) ?_ _
              gi_wp2_with fail
              refine ⟨trivial, (CallsIn.inRound l1 (callsIn_wide.2 (reset_mv _ pp v6 U8 hpp))).mono ?_⟩
              rintro e U9 ⟨⟨r9, rfl⟩, hbl, m9⟩
              have g9 := tk.reset (by omega) m9
              have g9c := g9.c
              have g9f := g9.f
              gi_wp2_with fail
              exact tk.done hJ (Nat.le_succ _) (by omega) (by omega) (by omega) ⟨by omega, by omega, by omega⟩ hbl m9 hj3 (by omega) (by omega)
            · have tk := taken hE mo7 hot7 o7 m7 hb7 m8 g3
              go_simp
              refine hK _ _ ?_
              clear hK K
              refine wpAnyIn_ready (rs := [4]) (by kernel_rfl) (by simp) ?_
              refine AllReadyIn.cons rfl (fun K hK => ?_) AllReadyIn.nil
              go_simp
              refine hK _ _ ?_
              clear hK K
              refine wpAnyIn_done (by kernel_rfl) ?_ _
              gi_wp2_with fail
              exact ⟨tk.mv, E3, tk.gr, rfl, hj3⟩
          refine AllReadyIn.cons rfl (fun K hK => ?_) AllReadyIn.nil
          go_simp
          refine ⟨trivial, (CallsIn.inRound l1 (callsIn_wide.2 hStr.out)).mono ?_⟩
          rintro e U7 ⟨rfl, m7, hb7⟩
          obtain ⟨cy7, gc7, hj7⟩ := hAft U7 m7
          obtain ⟨fn, tmps, assign, body, hy, hR⟩ := hY _ _ E0 U7 hj7
          dsimp only [encW] at hy
          go_simp
          refine hK _ _ ?_
          clear hK K
          refine wpAnyIn_ready (rs := [1]) (by kernel_rfl) (by simp) ?_
          refine AllReadyIn.cons rfl (fun K hK => ?_) AllReadyIn.nil
          go_simp
          refine hK _ _ ?_
          clear hK K
          refine wpAnyIn_ready (rs := [3]) (by kernel_rfl) (by simp) ?_
          refine AllReadyIn.cons rfl (fun K hK => ?_) AllReadyIn.nil
          go_simp
          refine (wide_round hR).mono ?_
          rintro e U8 ⟨m8, (⟨rfl, E3, g3, hj3⟩ | ⟨rfl, E3, g3, hj3⟩)⟩
          · have tk := taken hE mo7 hot7 o7 m7 hb7 m8 g3
            obtain ⟨pp, hpp⟩ := tk.at0
            go_simp
            refine hK _ _ ?_
            clear hK K
            refine wpAnyIn_ready (rs := [4]) (by kernel_rfl) (by simp) ?_
            refine AllReadyIn.cons rfl (fun K hK => ?_) AllReadyIn.nil
            go_simp
            refine hK _ _ ?_
            clear hK K
            refine wpAnyIn_done (by kernel_rfl) ?_ _
            gi_wp2_with fail
            refine ⟨trivial, (CallsIn.inRound l1 (callsIn_wide.2 (reset_mv _ pp v6 U8 hpp))).mono ?_⟩
            rintro e U9 ⟨⟨r9, rfl⟩, hbl, m9⟩
            have g9 := tk.reset (by omega) m9
            have g9c := g9.c
            have g9f := g9.f
            gi_wp2_with fail
            exact tk.done hJ (Nat.le_succ _) (by omega) (by omega) (by omega) ⟨by omega, by omega, by omega⟩ hbl m9 hj3 (by omega) (by omega)
          · have tk := taken hE mo7 hot7 o7 m7 hb7 m8 g3
            go_simp
            refine hK _ _ ?_
            clear hK K
            refine wpAnyIn_ready (rs := [4]) (by kernel_rfl) (by simp) ?_
            refine AllReadyIn.cons rfl (fun K hK => ?_) AllReadyIn.nil
            go_simp
            refine hK _ _ ?_
            clear hK K
            refine wpAnyIn_done (by kernel_rfl) ?_ _
            gi_wp2_with fail
            exact ⟨tk.mv, E3, tk.gr, rfl, hj3⟩
        refine AllReadyIn.cons rfl (fun K hK => ?_) ?_
        · go_simp
          refine hK _ _ ?_
          clear hK K
          refine wpAnyIn_ready (rs := [0, 2]) (by kernel_rfl) (by simp) ?_
          refine AllReadyIn.cons rfl (fun K hK => ?_) ?_
          · go_simp
            refine hK _ _ ?_
            clear hK K
            refine wpAnyIn_ready (rs := [2]) (by kernel_rfl) (by simp) ?_
            refine AllReadyIn.cons rfl (fun K hK => ?_) AllReadyIn.nil
            go_simp
            refine ⟨trivial, (CallsIn.inRound l1 (callsIn_wide.2 hStr.out)).mono ?_⟩
            rintro e U7 ⟨rfl, m7, hb7⟩
            obtain ⟨cy7, gc7, hj7⟩ := hAft U7 m7
            obtain ⟨fn, tmps, assign, body, hy, hR⟩ := hY _ _ E0 U7 hj7
            dsimp only [encW] at hy
            go_simp
            refine hK _ _ ?_
            clear hK K
            refine wpAnyIn_ready (rs := [3]) (by kernel_rfl) (by simp) ?_
            refine AllReadyIn.cons rfl (fun K hK => ?_) AllReadyIn.nil
            go_simp
            refine (wide_round hR).mono ?_
            rintro e U8 ⟨m8, (⟨rfl, E3, g3, hj3⟩ | ⟨rfl, E3, g3, hj3⟩)⟩
            · have tk := taken hE mo7 hot7 o7 m7 hb7 m8 g3
              obtain ⟨pp, hpp⟩ := tk.at0
              go_simp
              refine hK _ _ ?_
              clear hK K
              refine wpAnyIn_ready (rs := [4]) (by kernel_rfl) (by simp) ?_
              refine AllReadyIn.cons rfl (fun K hK => ?_) AllReadyIn.nil
              go_simp
              refine hK _ _ ?_
              clear hK K
              refine wpAnyIn_done (by kernel_rfl) ?_ _
              gi_wp2_with fail
              refine ⟨trivial, (CallsIn.inRound l1 (callsIn_wide.2 (reset_mv _ pp v6 U8 hpp))).mono ?_⟩
              rintro e U9 ⟨⟨r9, rfl⟩, hbl, m9⟩
              have g9 := tk.reset (by omega) m9
              have g9c := g9.c
              have g9f := g9.f
              gi_wp2_with fail
              exact tk.done hJ (Nat.le_succ _) (by omega) (by omega) (by omega) ⟨by omega, by omega, by omega⟩ hbl m9 hj3 (by omega) (by omega)
            · have tk := taken hE mo7 hot7 o7 m7 hb7 m8 g3
              go_simp
              refine hK _ _ ?_
              clear hK K
              refine wpAnyIn_ready (rs := [4]) (by kernel_rfl) (by simp) ?_
              refine AllReadyIn.cons rfl (fun K hK => ?_) AllReadyIn.nil
              go_simp
              refine hK _ _ ?_
              clear hK K
              refine wpAnyIn_done (by kernel_rfl) ?_ _
              gi_wp2_with fail
              exact ⟨tk.mv, E3, tk.gr, rfl, hj3⟩
          refine AllReadyIn.cons rfl (fun K hK => ?_) AllReadyIn.nil
          go_simp
          refine ⟨trivial, (CallsIn.inRound l1 (callsIn_wide.2 hStr.out)).mono ?_⟩
          rintro e U7 ⟨rfl, m7, hb7⟩
          obtain ⟨cy7, gc7, hj7⟩ := hAft U7 m7
          obtain ⟨fn, tmps, assign, body, hy, hR⟩ := hY _ _ E0 U7 hj7
          dsimp only [encW] at hy
          go_simp
          refine hK _ _ ?_
          clear hK K
          refine wpAnyIn_ready (rs := [0]) (by kernel_rfl) (by simp) ?_
          refine AllReadyIn.cons rfl (fun K hK => ?_) AllReadyIn.nil
          go_simp
          refine hK _ _ ?_
          clear hK K
          refine wpAnyIn_ready (rs := [3]) (by kernel_rfl) (by simp) ?_
          refine AllReadyIn.cons rfl (fun K hK => ?_) AllReadyIn.nil
          go_simp
          refine (wide_round hR).mono ?_
          rintro e U8 ⟨m8, (⟨rfl, E3, g3, hj3⟩ | ⟨rfl, E3, g3, hj3⟩)⟩
          · have tk := taken hE mo7 hot7 o7 m7 hb7 m8 g3
            obtain ⟨pp, hpp⟩ := tk.at0
            go_simp
            refine hK _ _ ?_
            clear hK K
            refine wpAnyIn_ready (rs := [4]) (by kernel_rfl) (by simp) ?_
            refine AllReadyIn.cons rfl (fun K hK => ?_) AllReadyIn.nil
            go_simp
            refine hK _ _ ?_
            clear hK K
            refine wpAnyIn_done (by kernel_rfl) ?_ _
            gi_wp2_with fail
            refine ⟨trivial, (CallsIn.inRound l1 (callsIn_wide.2 (reset_mv _ pp v6 U8 hpp))).mono ?_⟩
            rintro e U9 ⟨⟨r9, rfl⟩, hbl, m9⟩
            have g9 := tk.reset (by omega) m9
            have g9c := g9.c
            have g9f := g9.f
            gi_wp2_with fail
            exact tk.done hJ (Nat.le_succ _) (by omega) (by omega) (by omega) ⟨by omega, by omega, by omega⟩ hbl m9 hj3 (by omega) (by omega)
          · have tk := taken hE mo7 hot7 o7 m7 hb7 m8 g3
            go_simp
            refine hK _ _ ?_
            clear hK K
            refine wpAnyIn_ready (rs := [4]) (by kernel_rfl) (by simp) ?_
            refine AllReadyIn.cons rfl (fun K hK => ?_) AllReadyIn.nil
            go_simp
            refine hK _ _ ?_
            clear hK K
            refine wpAnyIn_done (by kernel_rfl) ?_ _
            gi_wp2_with fail
            exact ⟨tk.mv, E3, tk.gr, rfl, hj3⟩
        refine AllReadyIn.cons rfl (fun K hK => ?_) AllReadyIn.nil
        go_simp
        refine ⟨trivial, (CallsIn.inRound l1 (callsIn_wide.2 hStr.out)).mono ?_⟩
        rintro e U7 ⟨rfl, m7, hb7⟩
        obtain ⟨cy7, gc7, hj7⟩ := hAft U7 m7
        obtain ⟨fn, tmps, assign, body, hy, hR⟩ := hY _ _ E0 U7 hj7
        dsimp only [encW] at hy
        go_simp
        refine hK _ _ ?_
        clear hK K
        refine wpAnyIn_ready (rs := [0, 1]) (by kernel_rfl) (by simp) ?_
        refine AllReadyIn.cons rfl (fun K hK => ?_) ?_
        · go_simp
          refine hK _ _ ?_
          clear hK K
          refine wpAnyIn_ready (rs := [1]) (by kernel_rfl) (by simp) ?_
          refine AllReadyIn.cons rfl (fun K hK => ?_) AllReadyIn.nil
          go_simp
          refine hK _ _ ?_
          clear hK K
          refine wpAnyIn_ready (rs := [3]) (by kernel_rfl) (by simp) ?_
          refine AllReadyIn.cons rfl (fun K hK => ?_) AllReadyIn.nil
          go_simp
          refine (wide_round hR).mono ?_
          rintro e U8 ⟨m8, (⟨rfl, E3, g3, hj3⟩ | ⟨rfl, E3, g3, hj3⟩)⟩
          · have tk := taken hE mo7 hot7 o7 m7 hb7 m8 g3
            obtain ⟨pp, hpp⟩ := tk.at0
            go_simp
            refine hK _ _ ?_
            clear hK K
            refine wpAnyIn_ready (rs := [4]) (by kernel_rfl) (by simp) ?_
            refine AllReadyIn.cons rfl (fun K hK => ?_) AllReadyIn.nil
            go_simp
            refine hK _ _ ?_
            clear hK K
            refine wpAnyIn_done (by kernel_rfl) ?_ _
            gi_wp2_with fail
            refine ⟨trivial, (CallsIn.inRound l1 (callsIn_wide.2 (reset_mv _ pp v6 U8 hpp))).mono ?_⟩
            rintro e U9 ⟨⟨r9, rfl⟩, hbl, m9⟩
            have g9 := tk.reset (by omega) m9
            have g9c := g9.c
            have g9f := g9.f
            gi_wp2_with fail
            exact tk.done hJ (Nat.le_succ _) (by omega) (by omega) (by omega) ⟨by omega, by omega, by omega⟩ hbl m9 hj3 (by omega) (by omega)
          · have tk := taken hE mo7 hot7 o7 m7 hb7 m8 g3
            go_simp
            refine hK _ _ ?_
            clear hK K
            refine wpAnyIn_ready (rs := [4]) (by kernel_rfl) (by simp) ?_
            refine AllReadyIn.cons rfl (fun K hK => ?_) AllReadyIn.nil
            go_simp
            refine hK _ _ ?_
            clear hK K
            refine wpAnyIn_done (by kernel_rfl) ?_ _
            gi_wp2_with fail
            exact ⟨tk.mv, E3, tk.gr, rfl, hj3⟩
        refine AllReadyIn.cons rfl (fun K hK => ?_) AllReadyIn.nil
        go_simp
        refine hK _ _ ?_
        clear hK K
        refine wpAnyIn_ready (rs := [0]) (by kernel_rfl) (by simp) ?_
        refine AllReadyIn.cons rfl (fun K hK => ?_) AllReadyIn.nil
        go_simp
        refine hK _ _ ?_
        clear hK K
        refine wpAnyIn_ready (rs := [3]) (by kernel_rfl) (by simp) ?_
        refine AllReadyIn.cons rfl (fun K hK => ?_) AllReadyIn.nil
        go_simp
        refine (wide_round hR).mono ?_
        rintro e U8 ⟨m8, (⟨rfl, E3, g3, hj3⟩ | ⟨rfl, E3, g3, hj3⟩)⟩
        · have tk := taken hE mo7 hot7 o7 m7 hb7 m8 g3
          obtain ⟨pp, hpp⟩ := tk.at0
          go_simp
          refine hK _ _ ?_
          clear hK K
          refine wpAnyIn_ready (rs := [4]) (by kernel_rfl) (by simp) ?_
          refine AllReadyIn.cons rfl (fun K hK => ?_) AllReadyIn.nil
          go_simp
          refine hK _ _ ?_
          clear hK K
          refine wpAnyIn_done (by kernel_rfl) ?_ _
          gi_wp2_with fail
          refine ⟨trivial, (CallsIn.inRound l1 (callsIn_wide.2 (reset_mv _ pp v6 U8 hpp))).mono ?_⟩
          rintro e U9 ⟨⟨r9, rfl⟩, hbl, m9⟩
          have g9 := tk.reset (by omega) m9
          have g9c := g9.c
          have g9f := g9.f
          gi_wp2_with fail
          exact tk.done hJ (Nat.le_succ _) (by omega) (by omega) (by omega) ⟨by omega, by omega, by omega⟩ hbl m9 hj3 (by omega) (by omega)
        · have tk := taken hE mo7 hot7 o7 m7 hb7 m8 g3
          go_simp
          refine hK _ _ ?_
          clear hK K
          refine wpAnyIn_ready (rs := [4]) (by kernel_rfl) (by simp) ?_
          refine AllReadyIn.cons rfl (fun K hK => ?_) AllReadyIn.nil
          go_simp
          refine hK _ _ ?_
          clear hK K
          refine wpAnyIn_done (by kernel_rfl) ?_ _
          gi_wp2_with fail
          exact ⟨tk.mv, E3, tk.gr, rfl, hj3⟩
      · have hHz := trimS_len hsf
        rw [hwO hsf] at hj5
        obtain ⟨H, hHl, hHs, hHe⟩ := letters (Lib.trimSuffix X.data.toList [92])
        rw [hsf, hHe] at hCS
        rw [← hHs, size_list] at hHz
        rw [← hHl] at hj5
        have hCS' : Hid (∀ w, Calls Tryd.prog 49 #[.string X, .string ⟨#[92]⟩] w fun e w' => e = .returned (.tuple #[.string H, .bool true]) ∧ w' = w) := hCS
        clear hCS hwE hwO hHl hHs hHe hsf
        gi_wp2_with (rw [hU3])
        refine ⟨trivial, (CallsIn.inRound l1 (callsIn_wide.2 (hCS'.out _))).mono ?_⟩
        rintro e w1 ⟨rfl, rfl⟩
        gi_wp2_with fail
        refine ⟨trivial, (CallsIn.inRound l1 (callsIn_wide.2 (writeString_mv _ v y H _ o5.bld (by omega) (by omega)))).mono ?_⟩
        rintro e U6 ⟨⟨r, rfl⟩, hw⟩
        obtain ⟨v6, o6, mo6, hot6⟩ := o5.wrote hEl5 (by omega) hw
        have hU56 := mo6.size
        have hEl6 : ∀ k, E0 k → k < U6.heap.size := fun k hk => Nat.lt_of_lt_of_le (hEl5 k hk) hU56
        have hwb := writeByte_mv _ v6 _ 32 U6 o6.bld (by rw [List.length_append, size_list]; omega)
        rw [show (((32 : UInt8).toNat : Nat) : Int) = 32 from rfl] at hwb
        gi_wp2_with fail
        refine ⟨trivial, (CallsIn.inRound l1 (callsIn_wide.2 hwb)).mono ?_⟩
        rintro e U7 ⟨rfl, hw7⟩
        obtain ⟨v7, o7, mo7, hot7⟩ := o6.wrote hEl6 (by omega) hw7
        have hj7 := hJ.keep _ _ _ _ (hJ.keep _ _ _ _ hj5 (mo6.mono (fun k _ hk => ⟨fun e => o5.dis k e hk, by have := o5.low k hk; omega⟩))) (mo7.mono (fun k _ hk => ⟨fun e => o6.dis k e hk, by have := o6.low k hk; omega⟩))
        have hG : Gr (OT (V.heap.size + 1) (V.heap.size + 1 + 1) (V.heap.size + 1 + 1 + 1) v) U2 (OT (V.heap.size + 1) (V.heap.size + 1 + 1) (V.heap.size + 1 + 1 + 1) v6) := fun k hk => (hot6 k hk).imp id (fun q => by omega)
        gi_wp2_with fail
        refine WI.on hE ((mo5.trans' mo6).trans hG mo7) (fun k hk => ?_) o7 hj7 (by omega) (by rw [List.length_append, List.length_append, size_list]; simp; omega) (by omega)
        rcases hot7 k hk with q | q
        · exact hG k q
        · exact .inr (by omega)
  case done =>
    rintro D E2 U hD hK hnD hm hg ⟨E0, v, n, b, y, ⟨hE, hn1, hn2, hn3⟩, hj, ho⟩
    have q1 := ho.gm.c
    have hDV : V.heap.size ≤ D := by omega
    have gE : Gr E1 V EI := fun k hk => by
      rcases (iE k).1 hk with q | q
      · exact .inl q
      · exact .inr (by have := ho1.low k q; omega)
    have mU : Mv E1 V U := (mV E1).trans gE hm
    have n0D : ¬ E0 D := fun h => hnD ((hE D).2 (.inl h))
    have g0 : Gr E1 V E0 := fun k hk => by
      rcases hg k ((hE k).2 (.inl hk)) with q | q
      · exact gE k q
      · exact .inr (by omega)
    by_cases hb0 : b = 0
    · subst hb0
      have hj' : J [] E0 U := hj
      gi_wp2_with fail
      refine ⟨by simp, .inl ⟨_, _, rfl, run_takeDeferred hK, ?_⟩⟩
      exact ⟨_, results_none rfl _ _ _, ⟨_, rfl⟩, mU.put_new (by omega) _, .inl ⟨E0, g0, hJ.keep _ _ _ _ hj' (.put ⟨n0D, hDV⟩ _)⟩⟩
    · have hbI : ((b : Int) != 0) = true := by simp; omega
      have hj' : J [(b, y)] E0 U := by
        have : whl n b y [] = [(b, y)] := by simp [whl, hb0]
        rw [← this]; exact hj
      gi_wp2_with fail
      refine wpIn_region_any (by kernel_rfl) ?_
      obtain ⟨D6, hD6⟩ : ∃ D6, U.drew = D6 := ⟨_, rfl⟩
      change wpAnyIn _ _ _ _ _ _ _ _ _ (World.drew U)
      rw [hD6]
      have mD : ∀ F : Nat → Prop, Mv F U D6 := fun F => by rw [← hD6]; exact Mv.drew _ _
      have hK6 : D6.heap[D]? = some (.deferred (some [])) := ((mD (fun _ => False)).block D (lt_of_heap hK) (fun h => h)).trans hK
      have o7 := ho.mv (mD (fun _ => False)) (fun _ _ h => h)
      have cyD : D6.cell? ⟨V.heap.size, 0, none⟩ = some (.func (.yield l) #[] #[]) := (mD (fun _ => False)).cell (fun h => h) (hm.cell (nE _ (nE1 _ (Nat.le_refl _)) (.inl (Nat.le_refl _))) cy)
      have gcD := o7.gm.c
      have hxl : y.length ≤ 4000000 := by omega
      have hStr : Hid (Calls Tryd.prog 31 #[.pointer (some ⟨V.heap.size + 1, 0, none⟩)] D6 fun e w' => e = .returned (.string ⟨y.toArray⟩) ∧ Mv (Ow (V.heap.size + 1) v) D6 w' ∧ w'.heap[V.heap.size + 1]? = D6.heap[V.heap.size + 1]?) := string_mv _ v _ D6 o7.bld hxl
      have hjD := hJ.keep _ _ _ _ hj' (mD _)
      have hAft : ∀ U7, Mv (Ow (V.heap.size + 1) v) D6 U7 →
          U7.cell? ⟨V.heap.size, 0, none⟩ = some (.func (.yield l) #[] #[]) ∧ U7.cell? ⟨V.heap.size + 1 + 1 + 1, 0, none⟩ = some (.int .i64 b) ∧ J [(b, y)] E0 U7 := fun U7 m7 =>
        ⟨m7.cell (fun h => by have := o7.low _ (.inl h); simp only at this; omega) cyD, m7.cell o7.og gcD, hJ.keep _ _ _ _ hjD (m7.mono (fun k _ hk => ⟨fun e => o7.dis k e (.inl hk), by have := o7.low k (.inl hk); omega⟩))⟩
      have nOD : ¬ Ow (V.heap.size + 1) v D := fun h => hnD ((hE D).2 (.inr (.inl h)))
      have gOw : Gr E1 V (Ow (V.heap.size + 1) v) := fun k hk => .inr (by have := o7.low k (.inl hk); omega)
      have fin : ∀ U7 U8 E3, Mv (Ow (V.heap.size + 1) v) D6 U7 → Mv E0 U7 U8 → Gr E0 U7 E3 → U8.heap[D]? = some (.deferred (some [])) ∧ Mv E1 V U8 ∧ Gr E1 V E3 ∧ ¬ E3 D := fun U7 U8 E3 m7 m8 g3 => by
        have hK7 := (m7.block D (lt_of_heap hK6) nOD).trans hK6
        have m67 := ((mU.trans' (mD _)).trans gOw m7)
        refine ⟨(m8.block D (lt_of_heap hK7) n0D).trans hK7, m67.trans g0 m8, fun k hk => ?_, fun h => ?_⟩
        · rcases g3 k hk with q | q
          · exact g0 k q
          · exact .inr (Nat.le_trans m67.size q)
        · rcases g3 _ h with q | q
          · exact n0D q
          · have := lt_of_heap hK7; omega
      refine wpAnyIn_ready (rs := [0, 1, 2]) (by kernel_rfl) (by simp) ?_
      refine AllReadyIn.cons rfl (fun K hK9 => ?_) ?_
      · go_simp
        refine hK9 _ _ ?_
        clear hK9 K
        refine wpAnyIn_ready (rs := [1, 2]) (by kernel_rfl) (by simp) ?_
        refine AllReadyIn.cons rfl (fun K hK9 => ?_) ?_
        · go_simp
          refine hK9 _ _ ?_
          clear hK9 K
          refine wpAnyIn_ready (rs := [2]) (by kernel_rfl) (by simp) ?_
          refine AllReadyIn.cons rfl (fun K hK9 => ?_) AllReadyIn.nil
          go_simp
          refine ⟨trivial, (callsIn_wide.2 hStr.out).mono ?_⟩
          rintro e U7 ⟨rfl, m7, hb7⟩
          obtain ⟨cy7, gc7, hj7⟩ := hAft U7 m7
          obtain ⟨fn, tmps, assign, body, hy, hR⟩ := hY _ _ E0 U7 hj7
          dsimp only [encW] at hy
          go_simp
          refine hK9 _ _ ?_
          clear hK9 K
          refine wpAnyIn_ready (rs := [3]) (by kernel_rfl) (by simp) ?_
          refine AllReadyIn.cons rfl (fun K hK9 => ?_) AllReadyIn.nil
          go_simp
          refine (wide_round' hR).mono ?_
          rintro e U8 ⟨m8, (⟨rfl, E3, g3, hj3⟩ | ⟨rfl, E3, g3, hj3⟩)⟩
          · obtain ⟨hK8, m88, g88, n88⟩ := fin U7 U8 E3 m7 m8 g3
            go_simp
            refine hK9 _ _ ?_
            clear hK9 K
            refine wpAnyIn_done (by kernel_rfl) ?_ _
            gi_wp2_with fail
            refine ⟨by simp, .inl ⟨_, _, rfl, run_takeDeferred hK8, ?_⟩⟩
            exact ⟨_, results_none rfl _ _ _, ⟨_, rfl⟩, m88.put_new (by omega) _, .inl ⟨E3, g88, hJ.keep _ _ _ _ hj3 (.put ⟨n88, hDV⟩ _)⟩⟩
          · obtain ⟨hK8, m88, g88, n88⟩ := fin U7 U8 E3 m7 m8 g3
            go_simp
            refine hK9 _ _ ?_
            clear hK9 K
            refine wpAnyIn_done (by kernel_rfl) ?_ _
            gi_wp2_with fail
            refine ⟨by simp, .inl ⟨_, _, rfl, run_takeDeferred hK8, ?_⟩⟩
            exact ⟨_, results_none rfl _ _ _, ⟨_, rfl⟩, m88.put_new (by omega) _, .inr ⟨E3, g88, hJx.keep _ _ _ _ hj3 (.put ⟨n88, hDV⟩ _)⟩⟩
        refine AllReadyIn.cons rfl (fun K hK9 => ?_) AllReadyIn.nil
        go_simp
        refine ⟨trivial, (callsIn_wide.2 hStr.out).mono ?_⟩
        rintro e U7 ⟨rfl, m7, hb7⟩
        obtain ⟨cy7, gc7, hj7⟩ := hAft U7 m7
        obtain ⟨fn, tmps, assign, body, hy, hR⟩ := hY _ _ E0 U7 hj7
        dsimp only [encW] at hy
        go_simp
        refine hK9 _ _ ?_
        clear hK9 K
        refine wpAnyIn_ready (rs := [1]) (by kernel_rfl) (by simp) ?_
        refine AllReadyIn.cons rfl (fun K hK9 => ?_) AllReadyIn.nil
        go_simp
        refine hK9 _ _ ?_
        clear hK9 K
        refine wpAnyIn_ready (rs := [3]) (by kernel_rfl) (by simp) ?_
        refine AllReadyIn.cons rfl (fun K hK9 => ?_) AllReadyIn.nil
        go_simp
        refine (wide_round' hR).mono ?_
        rintro e U8 ⟨m8, (⟨rfl, E3, g3, hj3⟩ | ⟨rfl, E3, g3, hj3⟩)⟩
        · obtain ⟨hK8, m88, g88, n88⟩ := fin U7 U8 E3 m7 m8 g3
          go_simp
          refine hK9 _ _ ?_
          clear hK9 K
          refine wpAnyIn_done (by kernel_rfl) ?_ _
          gi_wp2_with fail
          refine ⟨by simp, .inl ⟨_, _, rfl, run_takeDeferred hK8, ?_⟩⟩
          exact ⟨_, results_none rfl _ _ _, ⟨_, rfl⟩, m88.put_new (by omega) _, .inl ⟨E3, g88, hJ.keep _ _ _ _ hj3 (.put ⟨n88, hDV⟩ _)⟩⟩
        · obtain ⟨hK8, m88, g88, n88⟩ := fin U7 U8 E3 m7 m8 g3
          go_simp
          refine hK9 _ _ ?_
          clear hK9 K
          refine wpAnyIn_done (by kernel_rfl) ?_ _
          gi_wp2_with fail
          refine ⟨by simp, .inl ⟨_, _, rfl, run_takeDeferred hK8, ?_⟩⟩
          exact ⟨_, results_none rfl _ _ _, ⟨_, rfl⟩, m88.put_new (by omega) _, .inr ⟨E3, g88, hJx.keep _ _ _ _ hj3 (.put ⟨n88, hDV⟩ _)⟩⟩
      refine AllReadyIn.cons rfl (fun K hK9 => ?_) ?_
      · go_simp
        refine hK9 _ _ ?_
        clear hK9 K
        refine wpAnyIn_ready (rs := [0, 2]) (by kernel_rfl) (by simp) ?_
        refine AllReadyIn.cons rfl (fun K hK9 => ?_) ?_
        · go_simp
          refine hK9 _ _ ?_
          clear hK9 K
          refine wpAnyIn_ready (rs := [2]) (by kernel_rfl) (by simp) ?_
          refine AllReadyIn.cons rfl (fun K hK9 => ?_) AllReadyIn.nil
          go_simp
          refine ⟨trivial, (callsIn_wide.2 hStr.out).mono ?_⟩
          rintro e U7 ⟨rfl, m7, hb7⟩
          obtain ⟨cy7, gc7, hj7⟩ := hAft U7 m7
          obtain ⟨fn, tmps, assign, body, hy, hR⟩ := hY _ _ E0 U7 hj7
          dsimp only [encW] at hy
          go_simp
          refine hK9 _ _ ?_
          clear hK9 K
          refine wpAnyIn_ready (rs := [3]) (by kernel_rfl) (by simp) ?_
          refine AllReadyIn.cons rfl (fun K hK9 => ?_) AllReadyIn.nil
          go_simp
          refine (wide_round' hR).mono ?_
          rintro e U8 ⟨m8, (⟨rfl, E3, g3, hj3⟩ | ⟨rfl, E3, g3, hj3⟩)⟩
          · obtain ⟨hK8, m88, g88, n88⟩ := fin U7 U8 E3 m7 m8 g3
            go_simp
            refine hK9 _ _ ?_
            clear hK9 K
            refine wpAnyIn_done (by kernel_rfl) ?_ _
            gi_wp2_with fail
            refine ⟨by simp, .inl ⟨_, _, rfl, run_takeDeferred hK8, ?_⟩⟩
            exact ⟨_, results_none rfl _ _ _, ⟨_, rfl⟩, m88.put_new (by omega) _, .inl ⟨E3, g88, hJ.keep _ _ _ _ hj3 (.put ⟨n88, hDV⟩ _)⟩⟩
          · obtain ⟨hK8, m88, g88, n88⟩ := fin U7 U8 E3 m7 m8 g3
            go_simp
            refine hK9 _ _ ?_
            clear hK9 K
            refine wpAnyIn_done (by kernel_rfl) ?_ _
            gi_wp2_with fail
            refine ⟨by simp, .inl ⟨_, _, rfl, run_takeDeferred hK8, ?_⟩⟩
            exact ⟨_, results_none rfl _ _ _, ⟨_, rfl⟩, m88.put_new (by omega) _, .inr ⟨E3, g88, hJx.keep _ _ _ _ hj3 (.put ⟨n88, hDV⟩ _)⟩⟩
        refine AllReadyIn.cons rfl (fun K hK9 => ?_) AllReadyIn.nil
        go_simp
        refine ⟨trivial, (callsIn_wide.2 hStr.out).mono ?_⟩
        rintro e U7 ⟨rfl, m7, hb7⟩
        obtain ⟨cy7, gc7, hj7⟩ := hAft U7 m7
        obtain ⟨fn, tmps, assign, body, hy, hR⟩ := hY _ _ E0 U7 hj7
        dsimp only [encW] at hy
        go_simp
        refine hK9 _ _ ?_
        clear hK9 K
        refine wpAnyIn_ready (rs := [0]) (by kernel_rfl) (by simp) ?_
        refine AllReadyIn.cons rfl (fun K hK9 => ?_) AllReadyIn.nil
        go_simp
        refine hK9 _ _ ?_
        clear hK9 K
        refine wpAnyIn_ready (rs := [3]) (by kernel_rfl) (by simp) ?_
        refine AllReadyIn.cons rfl (fun K hK9 => ?_) AllReadyIn.nil
        go_simp
        refine (wide_round' hR).mono ?_
        rintro e U8 ⟨m8, (⟨rfl, E3, g3, hj3⟩ | ⟨rfl, E3, g3, hj3⟩)⟩
        · obtain ⟨hK8, m88, g88, n88⟩ := fin U7 U8 E3 m7 m8 g3
          go_simp
          refine hK9 _ _ ?_
          clear hK9 K
          refine wpAnyIn_done (by kernel_rfl) ?_ _
          gi_wp2_with fail
          refine ⟨by simp, .inl ⟨_, _, rfl, run_takeDeferred hK8, ?_⟩⟩
          exact ⟨_, results_none rfl _ _ _, ⟨_, rfl⟩, m88.put_new (by omega) _, .inl ⟨E3, g88, hJ.keep _ _ _ _ hj3 (.put ⟨n88, hDV⟩ _)⟩⟩
        · obtain ⟨hK8, m88, g88, n88⟩ := fin U7 U8 E3 m7 m8 g3
          go_simp
          refine hK9 _ _ ?_
          clear hK9 K
          refine wpAnyIn_done (by kernel_rfl) ?_ _
          gi_wp2_with fail
          refine ⟨by simp, .inl ⟨_, _, rfl, run_takeDeferred hK8, ?_⟩⟩
          exact ⟨_, results_none rfl _ _ _, ⟨_, rfl⟩, m88.put_new (by omega) _, .inr ⟨E3, g88, hJx.keep _ _ _ _ hj3 (.put ⟨n88, hDV⟩ _)⟩⟩
      refine AllReadyIn.cons rfl (fun K hK9 => ?_) AllReadyIn.nil
      go_simp
      refine ⟨trivial, (callsIn_wide.2 hStr.out).mono ?_⟩
      rintro e U7 ⟨rfl, m7, hb7⟩
      obtain ⟨cy7, gc7, hj7⟩ := hAft U7 m7
      obtain ⟨fn, tmps, assign, body, hy, hR⟩ := hY _ _ E0 U7 hj7
      dsimp only [encW] at hy
      go_simp
      refine hK9 _ _ ?_
      clear hK9 K
      refine wpAnyIn_ready (rs := [0, 1]) (by kernel_rfl) (by simp) ?_
      refine AllReadyIn.cons rfl (fun K hK9 => ?_) ?_
      · go_simp
        refine hK9 _ _ ?_
        clear hK9 K
        refine wpAnyIn_ready (rs := [1]) (by kernel_rfl) (by simp) ?_
        refine AllReadyIn.cons rfl (fun K hK9 => ?_) AllReadyIn.nil
        go_simp
        refine hK9 _ _ ?_
        clear hK9 K
        refine wpAnyIn_ready (rs := [3]) (by kernel_rfl) (by simp) ?_
        refine AllReadyIn.cons rfl (fun K hK9 => ?_) AllReadyIn.nil
        go_simp
        refine (wide_round' hR).mono ?_
        rintro e U8 ⟨m8, (⟨rfl, E3, g3, hj3⟩ | ⟨rfl, E3, g3, hj3⟩)⟩
        · obtain ⟨hK8, m88, g88, n88⟩ := fin U7 U8 E3 m7 m8 g3
          go_simp
          refine hK9 _ _ ?_
          clear hK9 K
          refine wpAnyIn_done (by kernel_rfl) ?_ _
          gi_wp2_with fail
          refine ⟨by simp, .inl ⟨_, _, rfl, run_takeDeferred hK8, ?_⟩⟩
          exact ⟨_, results_none rfl _ _ _, ⟨_, rfl⟩, m88.put_new (by omega) _, .inl ⟨E3, g88, hJ.keep _ _ _ _ hj3 (.put ⟨n88, hDV⟩ _)⟩⟩
        · obtain ⟨hK8, m88, g88, n88⟩ := fin U7 U8 E3 m7 m8 g3
          go_simp
          refine hK9 _ _ ?_
          clear hK9 K
          refine wpAnyIn_done (by kernel_rfl) ?_ _
          gi_wp2_with fail
          refine ⟨by simp, .inl ⟨_, _, rfl, run_takeDeferred hK8, ?_⟩⟩
          exact ⟨_, results_none rfl _ _ _, ⟨_, rfl⟩, m88.put_new (by omega) _, .inr ⟨E3, g88, hJx.keep _ _ _ _ hj3 (.put ⟨n88, hDV⟩ _)⟩⟩
      refine AllReadyIn.cons rfl (fun K hK9 => ?_) AllReadyIn.nil
      go_simp
      refine hK9 _ _ ?_
      clear hK9 K
      refine wpAnyIn_ready (rs := [0]) (by kernel_rfl) (by simp) ?_
      refine AllReadyIn.cons rfl (fun K hK9 => ?_) AllReadyIn.nil
      go_simp
      refine hK9 _ _ ?_
      clear hK9 K
      refine wpAnyIn_ready (rs := [3]) (by kernel_rfl) (by simp) ?_
      refine AllReadyIn.cons rfl (fun K hK9 => ?_) AllReadyIn.nil
      go_simp
      refine (wide_round' hR).mono ?_
      rintro e U8 ⟨m8, (⟨rfl, E3, g3, hj3⟩ | ⟨rfl, E3, g3, hj3⟩)⟩
      · obtain ⟨hK8, m88, g88, n88⟩ := fin U7 U8 E3 m7 m8 g3
        go_simp
        refine hK9 _ _ ?_
        clear hK9 K
        refine wpAnyIn_done (by kernel_rfl) ?_ _
        gi_wp2_with fail
        refine ⟨by simp, .inl ⟨_, _, rfl, run_takeDeferred hK8, ?_⟩⟩
        exact ⟨_, results_none rfl _ _ _, ⟨_, rfl⟩, m88.put_new (by omega) _, .inl ⟨E3, g88, hJ.keep _ _ _ _ hj3 (.put ⟨n88, hDV⟩ _)⟩⟩
      · obtain ⟨hK8, m88, g88, n88⟩ := fin U7 U8 E3 m7 m8 g3
        go_simp
        refine hK9 _ _ ?_
        clear hK9 K
        refine wpAnyIn_done (by kernel_rfl) ?_ _
        gi_wp2_with fail
        refine ⟨by simp, .inl ⟨_, _, rfl, run_takeDeferred hK8, ?_⟩⟩
        exact ⟨_, results_none rfl _ _ _, ⟨_, rfl⟩, m88.put_new (by omega) _, .inr ⟨E3, g88, hJx.keep _ _ _ _ hj3 (.put ⟨n88, hDV⟩ _)⟩⟩
  case stop =>
    rintro D c E2 U hD hK hnD hm hg ⟨rfl, hi⟩
    have hDV : V.heap.size ≤ D := by omega
    have gE : Gr E1 V EI := fun k hk => by
      rcases (iE k).1 hk with q | q
      · exact .inl q
      · exact .inr (by have := ho1.low k q; omega)
    have mU : Mv E1 V U := (mV E1).trans gE hm
    have g0 : Gr E1 V E2 := fun k hk => by
      rcases hg k hk with q | q
      · exact gE k q
      · exact .inr (by omega)
    gi_wp2_with fail
    refine ⟨by simp, .inl ⟨_, _, rfl, run_takeDeferred hK, ?_⟩⟩
    exact ⟨_, results_none rfl _ _ _, ⟨_, rfl⟩, mU.put_new (by omega) _, .inr ⟨E2, g0, hJx.keep _ _ _ _ hi (.put ⟨hnD, hDV⟩ _)⟩⟩
end Go.Proofs.YtiinhfbfciccnaaDoor
/- The contract of package line's Lines. -/
namespace Go.Proofs.YtiinhfbfciccnaaDoor
open Go.RowKit Go.Shelf Lin
attribute [local go_sem] Oper.semAt_some
theorem whl_len : ∀ (r : List L) (n b : Nat) (x : L), (whl n b x r).length ≤ r.length + 1
  | [], n, b, x => by unfold whl; split <;> simp
  | p :: r, n, b, x => by
    unfold whl
    split
    · have := whl_len r (n + 1) 0 x; simp only [List.length_cons]; omega
    · split
      · have := whl_len r (n + 1) (if b = 0 then n + 1 else b) (x ++ Lib.trimSuffix p [92] ++ [32]); simp only [List.length_cons]; omega
      · have := whl_len r (n + 1) 0 []; simp only [List.length_cons]; omega
theorem whl_big : ∀ (r : List L) (n b : Nat) (x : L) (p : Nat × L), p ∈ whl n b x r → p.2.length ≤ x.length + tot r
  | [], n, b, x, p, h => by
    unfold whl at h
    split at h
    · simp at h
    · simp at h; rw [h]; simp
  | q :: r, n, b, x, p, h => by
    unfold whl at h
    split at h
    · have := whl_big r _ _ _ p h; simp only [tot]; omega
    · split at h
      · rename_i hq
        have := whl_big r _ _ _ p h
        have h2 := trimS_len hq
        simp only [List.length_append, List.length_cons, List.length_nil] at this
        simp only [tot]; omega
      · rcases List.mem_cons.1 h with rfl | h
        · simp only [List.length_append, tot]; omega
        · have := whl_big r _ _ _ p h; simp only [List.length_nil] at this; simp only [tot]; omega
/-- What stood ahead. -/
def pre (acc : List Ln) : Res → Res
  | .ok l => .ok (acc ++ l)
  | .error e => .error e
theorem pre_nil (r : Res) : pre [] r = r := by cases r <;> rfl
theorem pre_long (acc : List Ln) (n : Nat) (t : L) (r : List (Nat × L)) (h : 400 < t.length) : pre acc (lnsW ((n, t) :: r)) = .error (n, 51) := by simp [lnsW, h, pre]
theorem pre_bad (acc : List Ln) (n : Nat) (t : L) (r : List (Nat × L)) (h : ¬ 400 < t.length) (hp : prs t = none) : pre acc (lnsW ((n, t) :: r)) = .error (n, 50) := by simp [lnsW, h, hp, pre]
theorem pre_good (acc : List Ln) (n : Nat) (t : L) (r : List (Nat × L)) (h : ¬ 400 < t.length) (p : Kv) (hp : prs t = some p) : pre acc (lnsW ((n, t) :: r)) = pre (acc ++ [(p.1, p.2.1, p.2.2, n)]) (lnsW r) := by
  simp only [lnsW, if_neg h, hp]
  cases lnsW r <;> simp [pre]
def lnC (x : Ln) : List Value := [.int .i64 x.1, .string ⟨x.2.1.toArray⟩, .string ⟨x.2.2.1.toArray⟩, .int .i64 x.2.2.2]
def lnsC (l : List Ln) : List Value := l.flatMap lnC
theorem lnsC_snoc (l : List Ln) (x : Ln) : lnsC (l ++ [x]) = lnsC l ++ lnC x := by simp [lnsC]
/-- What Lines tells. -/
def LinesP (r : Res) (w : World) (e : Ending) (w' : World) : Prop := match r with
  | .ok l => ∃ v, e = .returned (.tuple #[v, .int .i64 0, .int .i64 0]) ∧ w'.ownsRow w.heap.size 60 4 v l.length (lnsC l) ∧ Below w.heap.size w w'
  | .error (n, k) => e = .returned (.tuple #[.slice none 0 0, .int .i64 n, .int .i64 k]) ∧ Below w.heap.size w w'
theorem infoL : (Tryd.prog.info? 60).map (fun i => (i.zero, i.size, i.bytes)) = some (some (.agg #[.int .i64 0, .string ⟨#[]⟩, .string ⟨#[]⟩, .int .i64 0]), 4, 48) := by kernel_rfl
theorem whole_any (s : ByteArray) (w : World) :
    Calls Tryd.prog 35 #[.string s] w fun e w' => e = .returned (.func (.func 46) #[] #[.pointer (some ⟨w.heap.size, 0, none⟩)]) ∧ w' = w.alloc (.cells #[.string s] 9) := by
  go_enter Tryd.func35, Tryd.ntmps35
  go_wp2_with fail
  go_ret
  exact ⟨rfl, rfl⟩
/-- The invariant of the loop in Lines: b is the first of its four boxes. -/
def LI (b : Nat) (R : Res) (rest : List (Nat × L)) (E : Nat → Prop) (W : World) : Prop :=
  ∃ (v : Value) (acc : List Ln), ((∀ k, E k ↔ ((b ≤ k ∧ k < b + 4) ∨ v.ownBlock = some k)) ∧ Hid (R = pre acc (lnsW rest)) ∧ acc.length + rest.length ≤ 5000 ∧ ∀ p ∈ rest, p.2.length ≤ 6000) ∧
    (Cl b (.slice none 0 0) W ∧ Cl (b + 1) (.int .i64 0) W ∧ Cl (b + 1 + 1) (.int .i64 0) W ∧ Cl (b + 1 + 1 + 1) v W) ∧ W.ownsRow (b + 4) 60 4 v acc.length (lnsC acc)
def LX (b : Nat) (R : Res) (c : Code) (E : Nat → Prop) (W : World) : Prop :=
  ∃ (n : Nat) (k : Int), (c = Code.ret ∧ (∀ k, E k ↔ (b ≤ k ∧ k < b + 4)) ∧ Hid (R = .error (n, k))) ∧ Cl b (.slice none 0 0) W ∧ Cl (b + 1) (.int .i64 n) W ∧ Cl (b + 1 + 1) (.int .i64 k) W ∧ b + 4 ≤ W.heap.size
theorem LI.ter {b C : Nat} {R : Res} : Ter C (LI b R) := by
  refine ⟨fun s E W V h m => ?_, fun s E W h k hk => ?_⟩
  · obtain ⟨v, acc, hp, ⟨c0, c1, c2, c3⟩, ho⟩ := h
    have hn : ∀ k, E k → ¬ (¬ E k ∧ C ≤ k) := fun k hk h => h.1 hk
    have hi : ∀ k, b ≤ k → k < b + 4 → E k := fun k h1 h2 => (hp.1 k).2 (.inl ⟨h1, h2⟩)
    exact ⟨v, acc, hp, ⟨c0.mv m (hn _ (hi _ (by omega) (by omega))), c1.mv m (hn _ (hi _ (by omega) (by omega))), c2.mv m (hn _ (hi _ (by omega) (by omega))), c3.mv m (hn _ (hi _ (by omega) (by omega)))⟩, own_mv ho m (fun g hg => hn g ((hp.1 g).2 (.inr hg)))⟩
  · obtain ⟨v, acc, hp, ⟨c0, c1, c2, c3⟩, ho⟩ := h
    rcases (hp.1 k).1 hk with q | q
    · have := c3.lt; omega
    · exact (ho.lt k q).2
theorem LX.ter {b C : Nat} {R : Res} : Ter C (LX b R) := by
  refine ⟨fun s E W V h m => ?_, fun s E W h k hk => ?_⟩
  · obtain ⟨n, k, hp, c0, c1, c2, hz⟩ := h
    have hn : ∀ k, E k → ¬ (¬ E k ∧ C ≤ k) := fun k hk h => h.1 hk
    have hi : ∀ k, b ≤ k → k < b + 4 → E k := fun k h1 h2 => (hp.2.1 k).2 ⟨h1, h2⟩
    exact ⟨n, k, hp, c0.mv m (hn _ (hi _ (by omega) (by omega))), c1.mv m (hn _ (hi _ (by omega) (by omega))), c2.mv m (hn _ (hi _ (by omega) (by omega))), Nat.le_trans hz m.size⟩
  · obtain ⟨n, j, hp, c0, c1, c2, hz⟩ := h
    have := (hp.2.1 k).1 hk; omega
theorem pre_ok {acc : List Ln} {R : Res} (h : R = pre acc (lnsW [])) : R = .ok acc := by rw [h]; simp [lnsW, pre]
/-- The results are set, the round is left. -/
theorem LI.stop {b : Nat} {R : Res} {rest : List (Nat × L)} {E : Nat → Prop} {W U : World} (h : LI b R rest E W) (m : Mv (fun _ => False) W U) (n : Nat) (k : Int) (hR : Hid (R = .error (n, k))) :
    Mv E W (((U.setCell ⟨b, 0, none⟩ (.slice none 0 0)).setCell ⟨b + 1, 0, none⟩ (.int .i64 n)).setCell ⟨b + 1 + 1, 0, none⟩ (.int .i64 k)) ∧ ∃ E', Gr E W E' ∧ LX b R Code.ret E' (((U.setCell ⟨b, 0, none⟩ (.slice none 0 0)).setCell ⟨b + 1, 0, none⟩ (.int .i64 n)).setCell ⟨b + 1 + 1, 0, none⟩ (.int .i64 k)) := by
  obtain ⟨v, acc, hp, ⟨c0, c1, c2, c3⟩, ho⟩ := h
  have hi : ∀ k, b ≤ k → k < b + 4 → E k := fun k h1 h2 => (hp.1 k).2 (.inl ⟨h1, h2⟩)
  have d0 := c0.mv m (fun h => h)
  have d1 := c1.mv m (fun h => h)
  have d2 := c2.mv m (fun h => h)
  have d3 := (c3.mv m (fun h => h)).lt
  have mE : Mv E W U := m.mono (fun _ _ h => h.elim)
  refine ⟨((mE.setc (p := ⟨b, 0, none⟩) (.inl (hi _ (by simp) (by simp))) _).setc (p := ⟨b + 1, 0, none⟩) (.inl (hi _ (by simp) (by simp))) _).setc (p := ⟨b + 1 + 1, 0, none⟩) (.inl (hi _ (by simp; omega) (by simp))) _, fun k => b ≤ k ∧ k < b + 4, fun k hk => .inl ((hp.1 k).2 (.inl hk)), n, k, ⟨rfl, fun _ => Iff.rfl, hR⟩, ?_, ?_, ?_, by simp; omega⟩
  · exact ((d0.set _).oth (by omega) _).oth (by omega) _
  · exact ((d1.oth (by omega) _).set _).oth (by omega) _
  · exact ((d2.oth (by omega) _).oth (by omega) _).set _
/-- A line more. -/
theorem LI.more {b : Nat} {R : Res} {rest : List (Nat × L)} {E : Nat → Prop} {W U4 w4 : World} {v v' : Value} {acc : List Ln} {cs : List Value} (hE : ∀ k, E k ↔ ((b ≤ k ∧ k < b + 4) ∨ v.ownBlock = some k)) (c0 : Cl b (.slice none 0 0) W) (c1 : Cl (b + 1) (.int .i64 0) W) (c2 : Cl (b + 1 + 1) (.int .i64 0) W) (c3 : Cl (b + 1 + 1 + 1) v W)
    (ho : W.ownsRow (b + 4) 60 4 v acc.length (lnsC acc)) (mU : ∀ F : Nat → Prop, Mv F W U4) (hgrow : U4.grownBy w4 v.ownBlock) (hown' : w4.ownsRow (b + 4) 60 4 v' (acc.length + 1) (lnsC acc ++ cs)) (hat : v'.ownBlock = v.ownBlock ∨ v'.ownBlock = some U4.heap.size)
    (x : Ln) (hx : Hid (lnsC (acc ++ [x]) = lnsC acc ++ cs)) (hacc : Hid (R = pre (acc ++ [x]) (lnsW rest))) (hal : acc.length + 1 + rest.length ≤ 5000) (hbg : ∀ p ∈ rest, p.2.length ≤ 6000) :
    Cl (b + 1 + 1 + 1) v w4 ∧ Mv E W (w4.setCell ⟨b + 1 + 1 + 1, 0, none⟩ v') ∧ ∃ E', Gr E W E' ∧ LI b R rest E' (w4.setCell ⟨b + 1 + 1 + 1, 0, none⟩ v') := by
  have hnv : ∀ k, v.ownBlock = some k → b + 4 ≤ k := fun k hk => (ho.lt k hk).1
  have mg : Mv (fun k => v.ownBlock = some k) W w4 := (mU _).grown hgrow (fun k e => .inl e)
  have nb : ∀ k, k < b + 4 → ¬ v.ownBlock = some k := fun k hk e => by have := hnv k e; omega
  have d0 := c0.mv mg (nb _ (by omega))
  have d1 := c1.mv mg (nb _ (by omega))
  have d2 := c2.mv mg (nb _ (by omega))
  have d3 := c3.mv mg (nb _ (by omega))
  have hv' : ∀ k, v'.ownBlock = some k → v.ownBlock = some k ∨ W.heap.size ≤ k := fun k e => by
    rcases hat with q | q
    · exact .inl (q ▸ e)
    · rw [q] at e
      have := Option.some.inj e
      have := (mU (fun _ => False)).size
      exact .inr (by omega)
  have hb4 : ∀ k, v'.ownBlock = some k → b + 4 ≤ k := fun k hk => (hown'.lt k hk).1
  refine ⟨d3, (mg.mono (fun k _ e => (hE k).2 (.inr e))).setc (p := ⟨b + 1 + 1 + 1, 0, none⟩) (.inl ((hE _).2 (.inl ⟨by simp; omega, by simp⟩))) _, fun k => (b ≤ k ∧ k < b + 4) ∨ v'.ownBlock = some k, fun k hk => ?_, v', acc ++ [x], ⟨fun _ => Iff.rfl, hacc, by rw [List.length_append]; exact hal, hbg⟩, ⟨d0.oth (by omega) _, d1.oth (by omega) _, d2.oth (by omega) _, d3.set _⟩, ?_⟩
  · rcases hk with hk | hk
    · exact .inl ((hE k).2 (.inl hk))
    · rcases hv' k hk with q | q
      · exact .inl ((hE k).2 (.inr q))
      · exact .inr q
  · rw [hx.out, List.length_append]
    exact own_mv hown' (E := fun k => k = b + 1 + 1 + 1) (Mv.set1 (E := fun k => k = b + 1 + 1 + 1) rfl _) (fun g hg e => by have := hb4 g hg; omega)
end Go.Proofs.YtiinhfbfciccnaaDoor
/- The contract of package line's Lines: a text too long. -/
namespace Go.Proofs.YtiinhfbfciccnaaDoor
open Go.RowKit Go.Shelf Lin
attribute [local go_sem] Oper.semAt_some
set_option maxRecDepth 100000 in
set_option maxHeartbeats 4000000 in
theorem lines_long (s : ByteArray) (w : World) (hz : 4000 < s.size) : Calls Tryd.prog 24 #[.string s] w (LinesP (lns s.data.toList) w) := by
  have hR : Hid (lns s.data.toList = .error (0, 51)) := by show _ = _; unfold lns; rw [size_list, if_pos hz]
  obtain ⟨R0, hR0⟩ : ∃ R0, ((w.alloc (.cells #[.slice none 0 0] 56)).alloc (.cells #[.int .i64 0] 3)).alloc (.cells #[.int .i64 0] 26) = R0 := ⟨_, rfl⟩
  have hb0 : Below w.heap.size w R0 := by rw [← hR0]; exact (((Below.refl _ w).alloc (Nat.le_refl _) _).alloc (by simp) _).alloc (by simp; omega) _
  have k0 : Cl w.heap.size (.slice none 0 0) R0 := by
    rw [← hR0]
    exact Cl.mv (E := fun _ => False) (W := w.alloc (.cells #[.slice none 0 0] 56)) ⟨cell_at rfl rfl, World.frozen?_alloc_new _ _ _ _⟩ ((Mv.alloc _ _ _).trans' (Mv.alloc _ _ _)) (fun h => h)
  have k1 : Cl (w.heap.size + 1) (.int .i64 0) R0 := by
    rw [← hR0]
    refine Cl.mv (E := fun _ => False) (W := (w.alloc (.cells #[.slice none 0 0] 56)).alloc (.cells #[.int .i64 0] 3)) ⟨cell_at (by simp) rfl, ?_⟩ (Mv.alloc _ _ _) (fun h => h)
    rw [← World.size_alloc w (.cells #[.slice none 0 0] 56)]
    exact World.frozen?_alloc_new _ _ _ _
  have k2 : Cl (w.heap.size + 1 + 1) (.int .i64 0) R0 := by
    rw [← hR0]
    refine ⟨cell_at (by simp) rfl, ?_⟩
    have := World.frozen?_alloc_new ((w.alloc (.cells #[.slice none 0 0] 56)).alloc (.cells #[.int .i64 0] 3)) #[.int .i64 0] 26 0
    simpa using this
  have a0 := k0.c
  have a1 := k0.f
  have l1 := k1.oth (j := w.heap.size) (by omega) (.slice none 0 0)
  have l2 := (k2.oth (j := w.heap.size) (by omega) (.slice none 0 0)).oth (j := w.heap.size + 1) (by omega) (.int .i64 0)
  have a2 := l1.c
  have a3 := l1.f
  have a4 := l2.c
  have a5 := l2.f
  obtain ⟨R3, hR3⟩ : ∃ R3, ((R0.setCell ⟨w.heap.size, 0, none⟩ (.slice none 0 0)).setCell ⟨w.heap.size + 1, 0, none⟩ (.int .i64 0)).setCell ⟨w.heap.size + 1 + 1, 0, none⟩ (.int .i64 51) = R3 := ⟨_, rfl⟩
  have e0 := (((k0.set (.slice none 0 0)).oth (j := w.heap.size + 1) (by omega) (.int .i64 0)).oth (j := w.heap.size + 1 + 1) (by omega) (.int .i64 51)).c
  have e1 := ((l1.set (.int .i64 0)).oth (j := w.heap.size + 1 + 1) (by omega) (.int .i64 51)).c
  have e2 := (l2.set (.int .i64 51)).c
  have hb3 : Below w.heap.size w R3 := by rw [← hR3]; exact ((hb0.setCell (p := ⟨w.heap.size, 0, none⟩) (by simp) _).setCell (p := ⟨w.heap.size + 1, 0, none⟩) (by simp) _).setCell (p := ⟨w.heap.size + 1 + 1, 0, none⟩) (by simp; omega) _
  rw [hR3] at e0 e1 e2
  have hzI : (4000 : Int) < (s.size : Int) := by omega
  go_enter Tryd.func24, Tryd.ntmps24
  go_wp2_with (first | rw [hR0] | rw [hR3])
  refine bodyPost_ret (v := .tuple #[.slice none 0 0, .int .i64 0, .int .i64 51]) (by simp [results, Tryd.results24, go_sem, e0, e1, e2]) rfl ?_
  rw [hR.out]
  exact ⟨rfl, hb3⟩
end Go.Proofs.YtiinhfbfciccnaaDoor
/- The contract of package line's Lines: the walk. -/
namespace Go.Proofs.YtiinhfbfciccnaaDoor
open Go.RowKit Go.Shelf Lin
attribute [local go_sem] Oper.semAt_some
set_option maxRecDepth 100000 in
set_option maxHeartbeats 4000000 in
theorem lines_short (s : ByteArray) (w : World) (hg : Mx w) (hz : s.size ≤ 4000) : Calls Tryd.prog 24 #[.string s] w (LinesP (lns s.data.toList) w) := by
  have hR : Hid (lns s.data.toList = lnsW (whl 0 0 [] (pieces s.data.toList))) := by show _ = _; unfold lns; rw [size_list, if_neg (by omega)]
  obtain ⟨i0, hinf, hz0, hz1, hz2⟩ := info_parts infoL
  obtain ⟨mx, hmx⟩ := hg
  have lms : 0 < w.heap.size := cell_lt hmx
  obtain ⟨W0, hW0⟩ : ∃ W0, (((w.alloc (.cells #[.slice none 0 0] 56)).alloc (.cells #[.int .i64 0] 3)).alloc (.cells #[.int .i64 0] 26)).alloc (.cells #[.slice none 0 0] 56) = W0 := ⟨_, rfl⟩
  have hs0 : W0.heap.size = w.heap.size + 4 := by rw [← hW0]; simp
  have m0 : ∀ F : Nat → Prop, Mv F w W0 := fun F => by rw [← hW0]; exact (((Mv.alloc _ _ _).trans' (Mv.alloc _ _ _)).trans' (Mv.alloc _ _ _)).trans' (Mv.alloc _ _ _)
  have hb0 : Below w.heap.size w W0 := (m0 (fun _ => False)).toBelow (Nat.le_refl _) (fun _ _ h => h)
  have k0 : Cl w.heap.size (.slice none 0 0) W0 := by
    rw [← hW0]
    exact Cl.mv (E := fun _ => False) (W := w.alloc (.cells #[.slice none 0 0] 56)) ⟨cell_at rfl rfl, World.frozen?_alloc_new _ _ _ _⟩ (((Mv.alloc _ _ _).trans' (Mv.alloc _ _ _)).trans' (Mv.alloc _ _ _)) (fun h => h)
  have k1 : Cl (w.heap.size + 1) (.int .i64 0) W0 := by
    rw [← hW0]
    refine Cl.mv (E := fun _ => False) (W := (w.alloc (.cells #[.slice none 0 0] 56)).alloc (.cells #[.int .i64 0] 3)) ⟨cell_at (by simp) rfl, ?_⟩ ((Mv.alloc _ _ _).trans' (Mv.alloc _ _ _)) (fun h => h)
    rw [← World.size_alloc w (.cells #[.slice none 0 0] 56)]
    exact World.frozen?_alloc_new _ _ _ _
  have k2 : Cl (w.heap.size + 1 + 1) (.int .i64 0) W0 := by
    rw [← hW0]
    refine Cl.mv (E := fun _ => False) (W := ((w.alloc (.cells #[.slice none 0 0] 56)).alloc (.cells #[.int .i64 0] 3)).alloc (.cells #[.int .i64 0] 26)) ⟨cell_at (by simp) rfl, ?_⟩ (Mv.alloc _ _ _) (fun h => h)
    have := World.frozen?_alloc_new ((w.alloc (.cells #[.slice none 0 0] 56)).alloc (.cells #[.int .i64 0] 3)) #[.int .i64 0] 26 0
    simpa using this
  have k3 : Cl (w.heap.size + 1 + 1 + 1) (.slice none 0 0) W0 := by
    rw [← hW0]
    refine ⟨cell_at (by simp) rfl, ?_⟩
    have := World.frozen?_alloc_new (((w.alloc (.cells #[.slice none 0 0] 56)).alloc (.cells #[.int .i64 0] 3)).alloc (.cells #[.int .i64 0] 26)) #[.slice none 0 0] 56 0
    simpa using this
  have kmx := (m0 (fun _ => False)).cell (fun h => h) hmx
  have hzI : decide ((4000 : Int) < (s.size : Int)) = false := by simp; omega
  have hlen := whl_len (pieces s.data.toList) 0 0 []
  have htl := tot_len (pieces s.data.toList)
  rw [tot_pieces, size_list] at htl
  refine (callsIn_wide (n := 5)).1 ?_
  refine callsIn_of_wp_marks Tryd.func24 rfl trivial ?_ rfl
  simp only [Tryd.ntmps24, List.size_toArray, List.length_cons, List.length_nil, Nat.reduceAdd, Nat.reduceSub, Array.replicate_succ, Array.replicate_zero, List.push_toArray, List.append_toArray, List.nil_append, List.cons_append]
  gi_wp2_with (rw [hW0])
  clear hW0
  refine ⟨trivial, (callsIn_wide.2 (whole_any s W0)).mono ?_⟩
  rintro e W1 ⟨rfl, hW1⟩
  have m1 : ∀ F : Nat → Prop, Mv F W0 W1 := fun F => by rw [hW1]; exact Mv.alloc _ _ _
  have hs1 : W1.heap.size = W0.heap.size + 1 := by rw [hW1]; simp
  have cs1 : W1.cell? ⟨W0.heap.size, 0, none⟩ = some (.string s) := by rw [hW1]; exact cell_at rfl rfl
  clear hW1
  have cm1 := (m1 (fun _ => False)).cell (fun h => h) kmx
  obtain ⟨E, hE⟩ : ∃ E : Nat → Prop, ∀ k, E k ↔ ((w.heap.size ≤ k ∧ k < w.heap.size + 4) ∨ (Value.slice none 0 0).ownBlock = some k) := ⟨_, fun _ => Iff.rfl⟩
  have nE : ∀ k, (k < w.heap.size ∨ w.heap.size + 4 ≤ k) → ¬ E k := fun k hk h => by
    rcases (hE k).1 h with q | q
    · omega
    · simp [Value.ownBlock] at q
  have hrow := whole1_row s W0.heap.size mx E W1 hz cs1 (nE _ (.inr (by omega))) cm1 (nE _ (.inl lms))
  rw [hs0] at hrow
  have tI : Ter W1.heap.size (LI w.heap.size (lns s.data.toList)) := LI.ter
  have tX : Ter W1.heap.size (LX w.heap.size (lns s.data.toList)) := LX.ter
  have h0I : LI w.heap.size (lns s.data.toList) (whl 0 0 [] (pieces s.data.toList)) E W1 :=
    ⟨_, [], ⟨hE, by show _ = _; rw [pre_nil]; exact hR.out, by simp; omega, fun p hp => by have := whl_big _ _ _ _ p hp; rw [tot_pieces, size_list] at this; simp only [List.length_nil] at this; omega⟩, ⟨k0.mv (m1 (fun _ => False)) (fun h => h), k1.mv (m1 (fun _ => False)) (fun h => h), k2.mv (m1 (fun _ => False)) (fun h => h), k3.mv (m1 (fun _ => False)) (fun h => h)⟩, World.ownsRow_nil _ _ _ _⟩
  gi_wp2_with fail
  refine loop_out (gf := 46) (lb := #[.pointer (some ⟨w.heap.size + 4, 0, none⟩)]) rfl (enters_of Tryd.func46 (by kernel_rfl) rfl) hrow (fun _ => rfl) _ _ tI tX h0I ?round ?done ?stop
  case round =>
    rintro l1 hl1 ⟨n, x⟩ rest E2 U hi hm hgr hEl hrec
    obtain ⟨X, rfl, hXz, hXe⟩ := letters x
    simp only [encW, hXe]
    clear hXz hXe
    gi_wp2
    refine ⟨⟨Mv.refl _ _, trivial⟩, fun U2 tw => ?_⟩
    obtain ⟨hi2, hm2⟩ := tw.go tI hi (Mv.refl _ _) hm (Nat.le_refl _) (by omega) hEl
    have hi3 := hi2
    obtain ⟨v, acc, ⟨hE2, hacc, hal, hbg⟩, ⟨c0, c1, c2, c3⟩, ho⟩ := hi3
    simp only [List.length_cons] at hal
    have hXb : X.size ≤ 6000 := by have := hbg _ (List.mem_cons_self ..); rwa [size_list] at this
    have hbg' : ∀ p ∈ rest, p.2.length ≤ 6000 := fun p hp => hbg p (List.mem_cons_of_mem _ hp)
    have cmU := hm2.cell (nE _ (.inl lms)) cm1
    have hsU := hm2.size
    clear hi hm hrec tw
    have a0 := c0.c
    have a1 := c0.f
    by_cases hlg : 400 < X.size
    · have hErr : Hid (lns s.data.toList = .error (n, 51)) := by show _ = _; rw [hacc.out]; exact pre_long _ _ _ _ (by rw [size_list]; exact hlg)
      have hlI : (400 : Int) < (X.size : Int) := by omega
      have hst := hi2.stop (Mv.refl _ U2) n 51 hErr
      have l1' := c1.oth (j := w.heap.size) (by omega) (.slice none 0 0)
      have l2' := (c2.oth (j := w.heap.size) (by omega) (.slice none 0 0)).oth (j := w.heap.size + 1) (by omega) (.int .i64 n)
      have a2 := l1'.c
      have a3 := l1'.f
      have a4 := l2'.c
      have a5 := l2'.f
      gi_wp2_with fail
      exact hst
    · have hlI : decide ((400 : Int) < (X.size : Int)) = false := by simp; omega
      have hpa := parse_any X U2 ⟨mx, cmU⟩ (by omega)
      cases hpr : prs X.data.toList with
      | none =>
        rw [hpr] at hpa
        have hErr : Hid (lns s.data.toList = .error (n, 50)) := by show _ = _; rw [hacc.out]; exact pre_bad _ _ _ _ (by rw [size_list]; exact hlg) hpr
        have hpa' : Hid (Calls Tryd.prog 36 #[.string X] U2 fun e w' => e = .returned (.tuple #[.agg #[.int .i64 0, .string ⟨#[]⟩, .string ⟨#[]⟩, .int .i64 0], .bool false]) ∧ Below U2.heap.size U2 w') := hpa
        clear hpa hpr
        gi_wp2_with fail
        refine ⟨trivial, (CallsIn.inRound l1 (callsIn_wide.2 hpa'.out)).mono ?_⟩
        rintro e U3 ⟨rfl, hb3⟩
        obtain ⟨t1, t2, t3, t4⟩ := hi2.stop (Mv.below hb3) n 50 hErr
        have m3 : Mv (fun _ => False) U2 U3 := Mv.below hb3
        have d0 := c0.mv m3 (fun h => h)
        have d1 := c1.mv m3 (fun h => h)
        have d2 := c2.mv m3 (fun h => h)
        have e0 := d0.c
        have e1 := d0.f
        have e2 := d0.lt
        have e3 := d1.c
        have e4 := d1.f
        have e5 := d1.lt
        have e6 := d2.c
        have e7 := d2.f
        have e8 := d2.lt
        have x0 := World.frozen?_of_block (a := ⟨w.heap.size, 0, none⟩) (Below.heap_alloc U3 (.cells #[.int .i64 0, .string ⟨#[]⟩, .string ⟨#[]⟩, .int .i64 0] 60) _ e2)
        have x1 := World.frozen?_of_block (a := ⟨w.heap.size + 1, 0, none⟩) (Below.heap_alloc U3 (.cells #[.int .i64 0, .string ⟨#[]⟩, .string ⟨#[]⟩, .int .i64 0] 60) _ e5)
        have x2 := World.frozen?_of_block (a := ⟨w.heap.size + 1 + 1, 0, none⟩) (Below.heap_alloc U3 (.cells #[.int .i64 0, .string ⟨#[]⟩, .string ⟨#[]⟩, .int .i64 0] 60) _ e8)
        gi_wp2_with fail
        exact ⟨t1.trans' (Mv.alloc _ _ _), t2, t3, tX.keep _ _ _ _ t4 (Mv.alloc _ _ _)⟩
      | some p =>
        obtain ⟨kd, ky, vl⟩ := p
        obtain ⟨K, rfl, _, hKe⟩ := letters ky
        obtain ⟨Y, rfl, _, hYe⟩ := letters vl
        have hpa' : Hid (Calls Tryd.prog 36 #[.string X] U2 fun e w' => e = .returned (.tuple #[.agg #[.int .i64 kd, .string K, .string Y, .int .i64 0], .bool true]) ∧ Below U2.heap.size U2 w') := by
          show Calls _ _ _ _ _
          rw [hpr] at hpa
          unfold prsV lnV at hpa
          simp only [hKe, hYe] at hpa
          exact hpa
        have hGood := pre_good acc n X.data.toList rest (by rw [size_list]; exact hlg) _ hpr
        have hacc' : Hid (lns s.data.toList = pre (acc ++ [(kd, K.data.toList, Y.data.toList, n)]) (lnsW rest)) := by show _ = _; rw [hacc.out]; exact hGood
        have hcl : Hid (lnsC (acc ++ [(kd, K.data.toList, Y.data.toList, n)]) = lnsC acc ++ [.int .i64 kd, .string K, .string Y, .int .i64 n]) := by
          show _ = _
          rw [lnsC_snoc]
          show _ ++ [Value.int .i64 kd, .string ⟨K.data.toList.toArray⟩, .string ⟨Y.data.toList.toArray⟩, .int .i64 n] = _
          rw [Lib.mk_data, Lib.mk_data]
        clear hpa hpr hGood hKe hYe
        gi_wp2_with fail
        refine ⟨trivial, (CallsIn.inRound l1 (callsIn_wide.2 hpa'.out)).mono ?_⟩
        rintro e U3 ⟨rfl, hb3⟩
        have m3 : ∀ F : Nat → Prop, Mv F U2 U3 := fun F => Mv.below hb3
        have d3 := c3.mv (m3 (fun _ => False)) (fun h => h)
        have e0 := d3.c
        have e1 := d3.f
        have e2 := d3.lt
        have ho3 := own_mv ho (m3 (fun _ => False)) (fun _ _ h => h)
        have hr1 := (ho3.alloc (.cells #[.int .i64 kd, .string K, .string Y, .int .i64 n] 60)).alloc (.cells #[.int .i64 kd, .string K, .string Y, .int .i64 n] 60)
        gi_wp2_with (gi_at_builtin; refine wpListIn_append_own_at _ rfl _ _ 56 rfl (w.heap.size + 4) 60 i0 (.agg #[.int .i64 0, .string ⟨#[]⟩, .string ⟨#[]⟩, .int .i64 0]) 4 48 Tryd.underlying56 hinf hz0 hz1 hz2 rfl (by decide) _ _ _ rfl hr1 ⟨U3.heap.size + 1, 0, none⟩ 1 1 [.int .i64 kd, .string K, .string Y, .int .i64 n] rfl rfl (by simpa using four_new (U3.alloc (.cells #[.int .i64 kd, .string K, .string Y, .int .i64 n] 60)) _ _ _ _ _) (fun x hx => by simp at hx; rcases hx with rfl | rfl | rfl | rfl <;> rfl) (by unfold maxLen; omega) (by omega) (by simp; omega) ?_)
        intro v' w4 hown' hgrow _ hat
        obtain ⟨f3, hfin⟩ := LI.more hE2 c0 c1 c2 c3 ho (fun F => ((m3 F).trans' (Mv.alloc _ _ _)).trans' (Mv.alloc _ _ _)) hgrow hown' (by simpa using hat) _ hcl hacc' (by omega) hbg'
        obtain ⟨gg, cap', rfl⟩ := ownsRow_succ hown'
        have g3 := f3.c
        have g4 := f3.f
        gi_wp2_with fail
        exact hfin
  case done =>
    rintro D E2 U hD hK hnD hm hgr ⟨v, acc, ⟨hE2, hacc, hal, hbg⟩, ⟨c0, c1, c2, c3⟩, ho⟩
    have hOk : Hid (lns s.data.toList = .ok acc) := pre_ok hacc.out
    have a0 := c0.c
    have a1 := c0.f
    have b0 := c3.c
    have l1' := c1.oth (j := w.heap.size) (by omega) v
    have l2' := (c2.oth (j := w.heap.size) (by omega) v).oth (j := w.heap.size + 1) (by omega) (.int .i64 0)
    have a2 := l1'.c
    have a3 := l1'.f
    have a4 := l2'.c
    have a5 := l2'.f
    obtain ⟨R3, hR3⟩ : ∃ R3, ((U.setCell ⟨w.heap.size, 0, none⟩ v).setCell ⟨w.heap.size + 1, 0, none⟩ (.int .i64 0)).setCell ⟨w.heap.size + 1 + 1, 0, none⟩ (.int .i64 0) = R3 := ⟨_, rfl⟩
    have f0 := ((c0.set v).oth (j := w.heap.size + 1) (by omega) (.int .i64 0)).oth (j := w.heap.size + 1 + 1) (by omega) (.int .i64 0)
    have f1 := (l1'.set (.int .i64 0)).oth (j := w.heap.size + 1 + 1) (by omega) (.int .i64 0)
    have f2 := l2'.set (.int .i64 0)
    have mR : Mv (fun k => w.heap.size ≤ k ∧ k < w.heap.size + 4) U R3 := by rw [← hR3]; exact (((Mv.refl _ U).setc (p := ⟨w.heap.size, 0, none⟩) (.inl ⟨by simp, by simp⟩) _).setc (p := ⟨w.heap.size + 1, 0, none⟩) (.inl ⟨by simp, by simp⟩) _).setc (p := ⟨w.heap.size + 1 + 1, 0, none⟩) (.inl ⟨by simp; omega, by simp⟩) _
    rw [hR3] at f0 f1 f2
    have hown3 := own_mv ho mR (fun g hg h => by have := (ho.lt g hg).1; omega)
    have hKR : R3.heap[D]? = some (.deferred (some [])) := (mR.block D (lt_of_heap hK) (fun h => by omega)).trans hK
    have hb3 : Below w.heap.size w R3 := by
      have q1 : Below w.heap.size W1 U := hm.toBelow (by omega) (fun k hk h => by exact absurd h (nE k (.inl hk)))
      have q2 : Below w.heap.size U R3 := mR.toBelow (by have := hm.size; omega) (fun k hk h => by omega)
      exact ((hb0.trans ((m1 (fun _ => False)).toBelow (by omega) (fun _ _ h => h))).trans q1).trans q2
    have nvD : ¬ v.ownBlock = some D := fun e => hnD ((hE2 D).2 (.inr e))
    obtain ⟨ao, n', cap, rfl⟩ : ∃ ao n' cap, v = .slice ao n' cap := by
      rcases ho.2 with ⟨hv, _⟩ | ⟨g, cap, cur, hv, _⟩
      · exact ⟨_, _, _, hv⟩
      · exact ⟨_, _, _, hv⟩
    gi_wp2_with (rw [hR3])
    refine ⟨by simp, .inl ⟨_, _, rfl, run_takeDeferred hKR, ?_⟩⟩
    have mP : Mv (fun k => k = D) R3 (R3.putObj D (.deferred none)) := Mv.put (E := fun k => k = D) rfl _
    have z0 := (f0.mv mP (by omega)).c
    have z1 := (f1.mv mP (by omega)).c
    have z2 := (f2.mv mP (by omega)).c
    refine ⟨.tuple #[.slice ao n' cap, .int .i64 0, .int .i64 0], ?_, ?_⟩
    · simp [results, Tryd.results24, go_sem, z0, z1, z2]
    · rw [hOk.out]
      refine ⟨_, rfl, ?_, hb3.trans (mP.toBelow (by have := hb3.size; omega) (fun k hk e => by omega))⟩
      have h4 := own_mv hown3 mP (fun g hg e => nvD (e ▸ hg))
      exact ⟨h4.1, h4.2.imp id (fun ⟨g, c, cu, q1, q2, q3⟩ => ⟨g, c, cu, q1, by omega, q3⟩)⟩
  case stop =>
    rintro D c E2 U hD hK hnD hm hgr ⟨n, k, ⟨rfl, hE2, hErr⟩, c0, c1, c2, hzz⟩
    gi_wp2_with fail
    refine ⟨by simp, .inl ⟨_, _, rfl, run_takeDeferred hK, ?_⟩⟩
    have mP : Mv (fun k => k = D) U (U.putObj D (.deferred none)) := Mv.put (E := fun k => k = D) rfl _
    have z0 := (c0.mv mP (by omega)).c
    have z1 := (c1.mv mP (by omega)).c
    have z2 := (c2.mv mP (by omega)).c
    refine ⟨.tuple #[.slice none 0 0, .int .i64 n, .int .i64 k], ?_, ?_⟩
    · simp [results, Tryd.results24, go_sem, z0, z1, z2]
    · rw [hErr.out]
      have q1 : Below w.heap.size W1 U := hm.toBelow (by omega) (fun k hk h => by exact absurd h (nE k (.inl hk)))
      have hbU := (hb0.trans ((m1 (fun _ => False)).toBelow (by omega) (fun _ _ h => h))).trans q1
      exact ⟨rfl, hbU.trans (mP.toBelow (by have := hbU.size; omega) (fun k hk e => by omega))⟩
theorem lines_any (s : ByteArray) (w : World) (hg : Mx w) : Calls Tryd.prog 24 #[.string s] w (LinesP (lns s.data.toList) w) := by
  by_cases hz : 4000 < s.size
  · exact lines_long s w hz
  · exact lines_short s w hg (by omega)
end Go.Proofs.YtiinhfbfciccnaaDoor
