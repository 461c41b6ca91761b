/- The contract of unitfile.Merge. -/
import Derived.Test.YtmoafagemdnifaaDoorF4a
namespace Go.Proofs.YtmoafagemdnifaaDoor
open Go.RowKit Go.Shelf
attribute [local go_sem] Oper.semAt_some
/-- All settings of files that come from the end on. -/
def flatR (rest : List (Nat × (Value × List St))) : List St := rest.flatMap fun q => q.2.2.reverse
theorem str_nil (s : ByteArray) : (s.toList == []) = decide (s = ⟨#[]⟩) := by
  rw [Lib.toList_data]
  by_cases h : s = ⟨#[]⟩
  · subst h; rfl
  · have : s.data.toList ≠ [] := fun e => h (by rw [← Lib.mk_data s, e])
    rw [decide_eq_false h]
    simpa using this
theorem bk_mem {α : Type} {l : List α} : ∀ {k : Nat} {q : Nat × α}, q ∈ bk l k → q.2 ∈ l
  | 0, q, h => by simp [bk] at h
  | k + 1, q, h => by
    unfold bk at h
    split at h
    · rename_i x hx
      rcases List.mem_cons.1 h with rfl | h
      · exact List.mem_of_getElem? hx
      · exact bk_mem h
    · exact bk_mem h
set_option maxRecDepth 100000 in
set_option maxHeartbeats 8000000 in
theorem merge_any (a : Option Addr) (n c : Nat) (fs : List (Value × List St)) (w : World) (hfs : FsIs (fun _ => False) w (.slice a n c) fs) (hl : fs.length ≤ 1000000) (ht : (flatR (bk fs fs.length)).length ≤ 1000000000) (hz : ∀ x ∈ flatR (bk fs fs.length), x.s.size ≤ 1000000000 ∧ x.k.size ≤ 1000000000) (T : Sp) (hT : (flatR (bk fs fs.length)).foldl stp ([], []) = T) :
    Calls Tryd.prog 12 #[.slice a n c] w fun e w' => ∃ v, e = .returned (.agg #[v]) ∧ w'.ownsRow w.heap.size 44 4 v T.2.length (stsC T.2.reverse) ∧ Below w.heap.size w w' := by
  obtain ⟨i0, hinf, hz0, hz1, hz2⟩ := info_parts infoSt
  have hTH : Hid ((flatR (bk fs fs.length)).foldl stp ([], []) = T) := hT
  clear hT
  have hmm := @run_makeMap Tryd.prog
  obtain ⟨W0, hW0⟩ : ∃ W0, (((w.alloc (.cells #[.slice none 0 0] 25)).alloc (.map #[] 0)).alloc (.cells #[.map (some (w.heap.size + 1))] 63)).alloc (.cells #[.slice none 0 0] 23) = W0 := ⟨_, rfl⟩
  have hs0 : W0.heap.size = w.heap.size + 4 := by rw [← hW0]; simp
  have m0 : ∀ F : Nat → Prop, Mv F w W0 := fun F => by rw [← hW0]; exact (((Mv.alloc _ _ _).trans' (Mv.alloc _ _ _)).trans' (Mv.alloc _ _ _)).trans' (Mv.alloc _ _ _)
  have hMI : MI w.heap.size ([], []) (.slice none 0 0) W0 := by
    rw [← hW0]
    have k0 : Cl w.heap.size (.slice none 0 0) (w.alloc (.cells #[.slice none 0 0] 25)) := ⟨cell_at rfl rfl, World.frozen?_alloc_new _ _ _ _⟩
    have k1 := Em.new (w.alloc (.cells #[.slice none 0 0] 25))
    rw [World.size_alloc] at k1
    have k2 : Cl (w.heap.size + 2) (.map (some (w.heap.size + 1))) (((w.alloc (.cells #[.slice none 0 0] 25)).alloc (.map #[] 0)).alloc (.cells #[.map (some (w.heap.size + 1))] 63)) := by
      refine ⟨cell_at (by simp) rfl, ?_⟩
      have := World.frozen?_alloc_new ((w.alloc (.cells #[.slice none 0 0] 25)).alloc (.map #[] 0)) #[.map (some (w.heap.size + 1))] 63 0
      simpa using this
    have k3 : Cl (w.heap.size + 3) (.slice none 0 0) ((((w.alloc (.cells #[.slice none 0 0] 25)).alloc (.map #[] 0)).alloc (.cells #[.map (some (w.heap.size + 1))] 63)).alloc (.cells #[.slice none 0 0] 23)) := by
      refine ⟨cell_at (by simp) rfl, ?_⟩
      have := World.frozen?_alloc_new (((w.alloc (.cells #[.slice none 0 0] 25)).alloc (.map #[] 0)).alloc (.cells #[.map (some (w.heap.size + 1))] 63)) #[.slice none 0 0] 23 0
      simpa using this
    exact ⟨k0.mv (E := fun _ => False) (((Mv.alloc _ _ _).trans' (Mv.alloc _ _ _)).trans' (Mv.alloc _ _ _)) (fun h => h), k1.mv (E := fun _ => False) ((Mv.alloc _ _ _).trans' (Mv.alloc _ _ _)) (fun h => h), k2.mv (E := fun _ => False) (Mv.alloc _ _ _) (fun h => h), k3, World.ownsRow_nil _ _ _ _⟩
  refine (callsIn_wide (n := 5)).1 ?_
  refine callsIn_of_wp_marks Tryd.func12 rfl trivial ?_ rfl
  simp only [Tryd.ntmps12, List.size_toArray, List.length_cons, List.length_nil, Nat.reduceAdd, Nat.reduceSub, Array.replicate_succ, Array.replicate_zero, List.push_toArray, List.append_toArray, List.nil_append, List.cons_append]
  gi_wp2_with (rw [hW0])
  clear hW0
  refine ⟨trivial, (callsIn_wide.2 (backF_any a n c W0)).mono ?_⟩
  rintro e W1 ⟨rfl, hW1⟩
  have m1 : ∀ F : Nat → Prop, Mv F W0 W1 := fun F => by rw [hW1]; exact Mv.alloc _ _ _
  have hs1 : W1.heap.size = w.heap.size + 5 := by rw [hW1]; simp [hs0]
  have cs1 : W1.cell? ⟨W0.heap.size, 0, none⟩ = some (.slice a n c) := by rw [hW1]; exact cell_at rfl rfl
  clear hW1
  obtain ⟨E, hE⟩ : ∃ E : Nat → Prop, ∀ k, E k ↔ MT w.heap.size (.slice none 0 0) k := ⟨_, fun _ => Iff.rfl⟩
  have nE : ∀ k, (k < w.heap.size ∨ w.heap.size + 4 ≤ k) → ¬ E k := fun k hk h => by
    rcases (hE k).1 h with q | q
    · omega
    · simp [Value.ownBlock] at q
  have hfs1 : FsIs E W1 (.slice a n c) fs := by
    obtain ⟨a', c', hv, h1, h2⟩ := hfs
    refine FsIs.mv (E := E) (W := w) ⟨a', c', hv, fun h0 => ?_, fun p hp => ?_⟩ ((m0 _).trans' (m1 _)) (Gr.refl _ _)
    · obtain ⟨g, o, e1, _, e2⟩ := h1 h0
      exact ⟨g, o, e1, nE _ (.inl (cell_lt (e2 0 _ (List.getElem?_eq_getElem h0)))), e2⟩
    · obtain ⟨a2, c2, hv2, h3⟩ := h2 p hp
      refine ⟨a2, c2, hv2, fun h0 => ?_⟩
      obtain ⟨g, o, e1, _, e2⟩ := h3 h0
      exact ⟨g, o, e1, nE _ (.inl (cell_lt (e2 0 _ (List.getElem?_eq_getElem h0)).c0)), e2⟩
  have hrow := backF_row fs W0.heap.size (.slice a n c) E W1 cs1 (nE _ (.inr (by omega))) hfs1 (by omega)
  rw [hs0] at hrow
  have tI : Ter W1.heap.size (fun rest E W => (∀ q ∈ rest, q.2 ∈ fs) ∧ MJ w.heap.size T (flatR rest) E W) := ((MJ.ter w.heap.size W1.heap.size T).comp flatR).and _
  have h0I : MJ w.heap.size T (flatR (bk fs fs.length)) E W1 := ⟨([], []), _, ⟨hE, hTH, by simpa using ht, by simpa using ht, hz⟩, hMI.mv (m1 (fun _ => False)) (fun _ _ h => h)⟩
  gi_wp2_with fail
  refine loop_out (gf := 40) (lb := #[.pointer (some ⟨w.heap.size + 4, 0, none⟩)]) rfl (enters_of Tryd.func40 (by kernel_rfl) rfl) hrow (fun _ => rfl) (fun rest E W => (∀ q ∈ rest, q.2 ∈ fs) ∧ MJ w.heap.size T (flatR rest) E W) MX tI (MX.ter _) ⟨fun q hq => bk_mem hq, h0I⟩ ?round ?done ?stop
  case round =>
    rintro l1 hl1 ⟨ix, sv, l⟩ rest E2 U hi hm hgr hEl ⟨r1, hrec⟩
    have hlr : l1 < U.heap.size := lt_of_heap hrec
    have hmem : SlIs E2 U sv l := by
      obtain ⟨_, _, _, _, h⟩ := hfs1.mv hm hgr
      exact h (sv, l) (hi.1 _ (List.mem_cons_self ..))
    obtain ⟨a2, c2, rfl, hsl⟩ := hmem
    simp only [encF]
    gi_wp2
    refine ⟨⟨Mv.alloc _ _ _, Below.heap_alloc _ _ _ hlr⟩, fun U2 tw => ?_⟩
    obtain ⟨⟨hin, hi2⟩, hm2⟩ := tw.go tI hi (Mv.alloc _ _ _) hm (Nat.le_refl _) (by omega) hEl
    have hsl3 : SlIs E2 U2 (.slice a2 l.length c2) l := by
      obtain ⟨_, _, _, _, h⟩ := hfs1.mv hm2 hgr
      exact h (_, l) (hin _ (List.mem_cons_self ..))
    have cf : U2.cell? ⟨U.heap.size, 0, none⟩ = some (.slice a2 l.length c2) := tw.mv.cell (show ¬ U.heap.size = l1 by omega) (cell_at rfl rfl)
    obtain ⟨r2, hr2⟩ := tw.here
    have hin' : ∀ q ∈ rest, q.2 ∈ fs := fun q hq => hin q (List.mem_cons_of_mem _ hq)
    have hlow := (MJ.ter w.heap.size 0 T).low _ _ _ hi2
    clear hsl tw hi hm hrec hin
    gi_wp2_with fail
    refine ⟨trivial, (CallsIn.inRound l1 (callsIn_wide.2 (backS_any a2 l.length c2 U2))).mono ?_⟩
    rintro e U3 ⟨rfl, hU3⟩
    have m3 : ∀ F : Nat → Prop, Mv F U2 U3 := fun F => by rw [hU3]; exact Mv.alloc _ _ _
    have hs3 : U3.heap.size = U2.heap.size + 1 := by rw [hU3]; simp
    have cs3 : U3.cell? ⟨U2.heap.size, 0, none⟩ = some (.slice a2 l.length c2) := by rw [hU3]; exact cell_at rfl rfl
    clear hU3
    have hi3 := (MJ.ter w.heap.size 0 T).keep _ _ _ _ hi2 (m3 _)
    have hfl : flatR ((ix, Value.slice a2 l.length c2, l) :: rest) = (bk l l.length).map Prod.snd ++ flatR rest := by rw [bk_all]; rfl
    rw [hfl] at hi3
    have hll : l.length ≤ 1000000000 := by
      obtain ⟨p, v, ⟨_, _, h, _⟩, _⟩ := hi3
      rw [bk_all] at h; simp only [List.length_append, List.length_reverse] at h; omega
    have hrowS := backS_row l U2.heap.size (.slice a2 l.length c2) E2 U3 cs3 (fun h => by have := hlow _ h; omega) (hsl3.mv (m3 _) (Gr.refl _ _)) hll
    have tJ : Ter U3.heap.size (fun (r : List (Nat × St)) E W => MJ w.heap.size T (r.map Prod.snd ++ flatR rest) E W) := (MJ.ter w.heap.size U3.heap.size T).comp (fun (r : List (Nat × St)) => r.map Prod.snd ++ flatR rest)
    gi_wp2_with fail
    refine loop_in ⟨_, ((m3 (fun _ => False)).block l1 (lt_of_heap hr2) (fun h => h)).trans hr2⟩ (gf := 41) (lb := #[.pointer (some ⟨U2.heap.size, 0, none⟩)]) rfl (enters_of Tryd.func41 (by kernel_rfl) rfl) hrowS (fun _ => rfl) (fun (r : List (Nat × St)) E W => MJ w.heap.size T (r.map Prod.snd ++ flatR rest) E W) MX tJ (MX.ter _) hi3 ?r2 ?d2 ?s2
    case s2 => rintro c' E3 V _ _ h; exact h.elim
    case d2 =>
      rintro E3 V hm4 hg4 hj
      gi_wp2_with fail
      exact ⟨(m3 _).trans' hm4, E3, hg4.mono (m3 (fun _ => False)).size, hin', hj⟩
    case r2 =>
      rintro l2 hl2 ⟨iy, x⟩ rs E3 V hj hm4 hg4 hEl2 ⟨r3, hrec2⟩
      have hlr2 : l2 < V.heap.size := lt_of_heap hrec2
      simp only [encX, St.val]
      gi_wp2
      refine ⟨⟨Mv.alloc _ _ _, Below.heap_alloc _ _ _ hlr2⟩, fun V2 tw => ?_⟩
      obtain ⟨hj2, hm5⟩ := tw.go tJ hj (Mv.alloc _ _ _) hm4 (Nat.le_refl _) (by omega) hEl2
      have x0 : V2.cell? ⟨V.heap.size, 0, none⟩ = some (.string x.s) := tw.mv.cell (show ¬ V.heap.size = l2 by omega) (cell_at rfl rfl)
      have x1 : V2.cell? ⟨V.heap.size, 1, none⟩ = some (.string x.k) := tw.mv.cell (show ¬ V.heap.size = l2 by omega) (cell_at rfl rfl)
      have x2 : V2.cell? ⟨V.heap.size, 2, none⟩ = some (.string x.v) := tw.mv.cell (show ¬ V.heap.size = l2 by omega) (cell_at rfl rfl)
      have x3 : V2.cell? ⟨V.heap.size, 3, none⟩ = some (.int .i64 x.n) := tw.mv.cell (show ¬ V.heap.size = l2 by omega) (cell_at rfl rfl)
      obtain ⟨p, v, ⟨hE3, hfold, hb1, hb2, hzs⟩, hI⟩ := hj2
      simp only [List.map_cons, List.cons_append, List.length_cons] at hb1 hb2
      have hfold2 : Hid (List.foldl stp (stp p x) (rs.map Prod.snd ++ flatR rest) = T) := hfold.out
      have hx := hzs x (by simp)
      have hzs2 : ∀ y ∈ rs.map Prod.snd ++ flatR rest, y.s.size ≤ 1000000000 ∧ y.k.size ≤ 1000000000 := fun y hy => hzs y (by simp only [List.map_cons, List.cons_append, List.mem_cons]; exact .inr hy)
      obtain ⟨kl, hkl⟩ := key_mk x.s x.k (by unfold maxLen; omega) (by unfold maxLen; omega)
      clear tw hj hm4 hrec2 hfold hzs hi2 hi3 hrowS
      obtain ⟨em, out⟩ := p
      simp only at hb1 hb2
      obtain ⟨V3, hV3⟩ : ∃ V3, V2.alloc (.cells #[.string x.s, .string x.k] 71) = V3 := ⟨_, rfl⟩
      have mA : ∀ F : Nat → Prop, Mv F V2 V3 := fun F => by rw [← hV3]; exact Mv.alloc _ _ _
      have hI3 := hI.mv (mA (fun _ => False)) (fun _ _ h => h)
      obtain ⟨D, hD, hDm⟩ := hI3.em
      have hM := hD.isMap
      have z0 := (mA (fun _ => False)).cell (fun h => h) x0
      have z1 := (mA (fun _ => False)).cell (fun h => h) x1
      have z2 := (mA (fun _ => False)).cell (fun h => h) x2
      have z3 := (mA (fun _ => False)).cell (fun h => h) x3
      have y0 : V3.cell? ⟨V2.heap.size, 0, none⟩ = some (.string x.s) := by rw [← hV3]; exact cell_at rfl rfl
      have y1 : V3.cell? ⟨V2.heap.size, 1, none⟩ = some (.string x.k) := by rw [← hV3]; exact cell_at rfl rfl
      have c2 := hI3.cm.c
      have hlo := hI.lo
      by_cases hv : x.v = ⟨#[]⟩
      · have hst : stp (em, out) x = ((x.s, x.k) :: em, out) := by unfold stp; rw [if_pos hv]
        have hve : (x.v.toList == []) = true := by rw [str_nil, hv]; rfl
        rw [hst] at hfold2
        clear hst hv
        obtain ⟨V4, hrun, hown4, hg4⟩ := hD.update (t := 63) (e := 72) lawH Tryd.underlying63 (by unfold maxLen; show em.length < _; omega) hkl unitElem_mk
        have hEm4 : Em V4 (w.heap.size + 1) (em.length + 1) ((x.s, x.k) :: em) := Em.put hown4 hM hkl hDm
        have mg : Mv (fun k => k = w.heap.size + 1) V3 V4 := (Mv.refl _ _).grown hg4 (fun k e => .inl (by cases e; rfl))
        obtain ⟨D2, hD2, hDm2⟩ := hEm4
        have hEm5 : Em V4 (w.heap.size + 1) (em.length + 1) ((x.s, x.k) :: em) := ⟨D2, hD2, hDm2⟩
        obtain ⟨u, ps, hlook, hu⟩ := hD2.look_ok (t := 63) (e := 72) lawH Tryd.underlying63 (zeroU _) unitElem_mk hkl
        obtain ⟨rfl, _⟩ := unitElem_inv hu
        rw [hDm2 _ _ _ hkl, show inE ((x.s, x.k) :: em) x.s x.k = true by simp [inE]] at hlook
        dsimp only [hdV] at hrun hlook
        have n1 : V2.heap.size ≠ w.heap.size + 1 := fun e => by have := hlo (w.heap.size + 1) (.inl (by omega)); omega
        have y0' := mg.cell n1 y0
        have y1' := mg.cell n1 y1
        have c2' := mg.cell (show ¬ w.heap.size + 2 = w.heap.size + 1 by omega) c2
        have hI4 : MI w.heap.size ((x.s, x.k) :: em, out) v V4 := ⟨hI3.re.mv mg (by omega), hEm5, hI3.cm.mv mg (by omega), hI3.cs.mv mg (by omega), own_mv hI3.ow mg (fun g hg e => by have := (hI3.ow.lt g hg).1; omega)⟩
        have mF : Mv E3 V2 V4 := (mA _).trans' (mg.mono (fun k _ e => (hE3 k).2 (.inl (by omega))))
        clear hD hD2 hown4 hg4 hEm5 hDm hDm2 hu mg hI3 hI
        gi_wp2_with (rw [hV3])
        exact ⟨mF.trans' (Mv.alloc _ _ _), E3, Gr.refl _ _, _, v, ⟨hE3, hfold2, by simp only [List.length_cons]; omega, by first | omega | (simp only; omega), hzs2⟩, hI4.mv (E := fun _ => False) (Mv.alloc _ _ _) (fun _ _ h => h)⟩
      · have hve : (x.v.toList == []) = false := by rw [str_nil]; simp [hv]
        obtain ⟨u, ps, hlook, hu⟩ := hD.look_ok (t := 63) (e := 72) lawH Tryd.underlying63 (zeroU _) unitElem_mk hkl
        obtain ⟨rfl, _⟩ := unitElem_inv hu
        rw [hDm _ _ _ hkl] at hlook
        dsimp only [hdV] at hlook
        have hst : stp (em, out) x = if inE em x.s x.k then (em, out) else (em, out ++ [x]) := by unfold stp; rw [if_neg hv]
        rw [hst] at hfold2
        clear hst hv hD hDm hu
        cases hin : inE em x.s x.k
        · rw [hin] at hfold2 hlook
          obtain ⟨V4, hV4⟩ : ∃ V4, V3.alloc (.cells #[] 72) = V4 := ⟨_, rfl⟩
          have mB : ∀ F : Nat → Prop, Mv F V3 V4 := fun F => by rw [← hV4]; exact Mv.alloc _ _ _
          have hI4 := hI3.mv (mB (fun _ => False)) (fun _ _ h => h)
          have q0 := (mB (fun _ => False)).cell (fun h => h) z0
          have q1 := (mB (fun _ => False)).cell (fun h => h) z1
          have q2 := (mB (fun _ => False)).cell (fun h => h) z2
          have q3 := (mB (fun _ => False)).cell (fun h => h) z3
          have c3 := hI4.cs.c
          have hr1 : (V4.alloc (.cells #[.string x.s, .string x.k, .string x.v, .int .i64 x.n] 44)).ownsRow (w.heap.size + 4) 44 4 v out.length (stsC out) := hI4.ow.alloc _
          have hoL : out.length + 1 ≤ 1000000000 := by omega
          have h4s := hI4.cs.lt
          gi_wp2_with (first | rw [hV3] | rw [hV4] | (gi_at_builtin; refine wpListIn_append_own_at _ rfl _ _ 23 rfl (w.heap.size + 4) 44 i0 (.agg #[.string ⟨#[]⟩, .string ⟨#[]⟩, .string ⟨#[]⟩, .int .i64 0]) 4 56 Tryd.underlying23 hinf hz0 hz1 hz2 rfl (by decide) _ _ _ rfl hr1 ⟨V4.heap.size, 0, none⟩ 1 1 [.string x.s, .string x.k, .string x.v, .int .i64 x.n] rfl rfl (four_new V4 _ _ _ _ _) (fun x hx => by simp at hx; rcases hx with rfl | rfl | rfl | rfl <;> rfl) (by unfold maxLen; omega) (by omega) (by simp; omega) ?_))
          intro v' w4 hown' hgrow _ hat
          obtain ⟨f3, hfin, hmf, hterr⟩ := hI.more (x := x) (((mA _).trans' (mB _)).trans' (Mv.alloc _ _ _)) hgrow hown' (by simpa using hat)
          obtain ⟨gg, cap', rfl⟩ := ownsRow_succ hown'
          have g3 := f3.c
          have g4 := f3.f
          gi_wp2_with fail
          refine ⟨hmf.mono (fun k _ e => (hE3 k).2 e), _, fun k hk => (hterr k hk).imp (fun h => (hE3 k).2 h) id, (em, out ++ [x]), _, ⟨fun _ => Iff.rfl, hfold2, by show em.length + _ ≤ _; omega, by show (out ++ [x]).length + _ ≤ _; rw [List.length_append, List.length_singleton]; omega, hzs2⟩, hfin⟩
        · rw [hin] at hfold2 hlook
          gi_wp2_with (rw [hV3])
          exact ⟨(mA _).trans' (Mv.alloc _ _ _), E3, Gr.refl _ _, (em, out), v, ⟨hE3, hfold2, by show em.length + _ ≤ _; omega, by show out.length + _ ≤ _; omega, hzs2⟩, hI3.mv (E := fun _ => False) (Mv.alloc _ _ _) (fun _ _ h => h)⟩
  case done =>
    rintro D E2 U hD hK hnD hm hgr ⟨_, p, v, ⟨hE2, hfold, hb1, hb2, _⟩, hI⟩
    obtain rfl : p = T := hfold.out
    have c3 := hI.cs.c
    have hbU : Below w.heap.size w U := (((m0 (fun _ => False)).trans' (m1 _)).toBelow (Nat.le_refl _) (fun _ _ h => h)).trans (hm.toBelow (by omega) (fun k hk h => nE k (.inl hk) h))
    have hsl : ∃ ao n' cap, v = .slice ao n' cap := by
      rcases hI.ow.2 with ⟨hv, _⟩ | ⟨g, cap, cur, hv, _⟩
      · exact ⟨_, _, _, hv⟩
      · exact ⟨_, _, _, hv⟩
    have hv4 : ∀ k, v.ownBlock = some k → w.heap.size + 4 ≤ k := fun k e => (hI.ow.lt k e).1
    have hnvD : ¬ v.ownBlock = some D := fun e => hnD ((hE2 D).2 (.inr e))
    have hrev := reverse_any (w.heap.size + 4) v p.2 U hI.ow (by simp only [flatR, List.flatMap_nil, List.length_nil] at hb2; omega)
    obtain ⟨ao, n', cap, rfl⟩ := hsl
    gi_wp2_with fail
    refine ⟨trivial, (callsIn_wide.2 hrev).mono ?_⟩
    rintro e U2 ⟨rfl, how2, mr⟩
    have re2 := hI.re.mv mr (fun e => by have := hv4 _ e; omega)
    have cs2 := hI.cs.mv mr (fun e => by have := hv4 _ e; omega)
    have hK2 : U2.heap[D]? = some (.deferred (some [])) := (mr.block D (lt_of_heap hK) hnvD).trans hK
    have r0 := re2.c
    have r1 := re2.f
    have s0 := cs2.c
    obtain ⟨U3, hU3⟩ : ∃ U3, U2.setCell ⟨w.heap.size, 0, none⟩ (.slice ao n' cap) = U3 := ⟨_, rfl⟩
    have ms : Mv (fun k => k = w.heap.size) U2 U3 := by rw [← hU3]; exact Mv.set1 (E := fun k => k = w.heap.size) rfl _
    have re3 : Cl w.heap.size (.slice ao n' cap) U3 := by rw [← hU3]; exact re2.set _
    have hK3 : U3.heap[D]? = some (.deferred (some [])) := (ms.block D (lt_of_heap hK2) (fun e => by omega)).trans hK2
    have how3 := own_mv how2 ms (fun g hg e => by have := hv4 g hg; omega)
    gi_wp2_with (rw [hU3])
    refine ⟨by simp, .inl ⟨_, _, rfl, run_takeDeferred hK3, ?_⟩⟩
    have mP : Mv (fun k => k = D) U3 (U3.putObj D (.deferred none)) := Mv.put (E := fun k => k = D) rfl _
    have z0 := (re3.mv mP (by omega)).c
    have h4 := own_mv how3 mP (fun g hg e => hnvD (e ▸ hg))
    refine ⟨.agg #[.slice ao n' cap], by simp [results, Tryd.results12, go_sem, z0], _, rfl, own_base h4 (by omega), ?_⟩
    refine ((hbU.trans (mr.toBelow hbU.size (fun k hk e => by have := hv4 k e; omega))).trans (ms.toBelow (by have := hbU.size; have := mr.size; omega) (fun k hk e => by omega))).trans (mP.toBelow (by have := hbU.size; have := mr.size; have := ms.size; omega) (fun k hk e => by omega))
  case stop => rintro D c' E2 U _ _ _ _ _ h; exact h.elim
end Go.Proofs.YtmoafagemdnifaaDoor
