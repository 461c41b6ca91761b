/- The contract of package calendar's parseDate. -/
import Derived.Test.YteaaknbininehabDoorP6r
import Derived.Test.YteaaknbininehabDoorP6s
import Derived.Deep.RegionHeld3
namespace Go.Proofs.YteaaknbininehabDoor
open Go.RowKit
set_option maxRecDepth 100000 in
set_option maxHeartbeats 4000000 in
theorem parseDate_any (s : ByteArray) (b : Nat) (w : World) (hg : GlP w) (hs : s.size ≤ 100000) (hcb : Cb w b) :
    Calls Tryd.prog 29 #[.pointer (some ⟨b, 0, none⟩), .string s] w fun e w' => e = .returned (.bool (pD s).isSome) ∧ Told (pD s) b 1 w w' := by
  obtain ⟨hb2, hcs, hfs⟩ := hcb
  obtain ⟨u1, k1⟩ := hcs 1 (by omega)
  obtain ⟨u2, k2⟩ := hcs 2 (by omega)
  obtain ⟨u3, k3⟩ := hcs 3 (by omega)
  have bl : b < w.heap.size := cell_lt k1
  have hSp := split_any s (str1 45) 3 w hg hs (by decide) (by decide)
  have hle := fun x hx => Nat.le_trans (splitB_le (str1 45) (min (3 + 1) (s.size + 1) - 1) s x hx) hs
  change ∀ x ∈ splitT s (str1 45) 3, x.size ≤ 100000 at hle
  unfold pD
  obtain ⟨L, hL⟩ : ∃ L, splitT s (str1 45) 3 = L := ⟨_, rfl⟩
  rw [hL] at hSp hle ⊢
  clear hL
  by_cases h3 : L.length = 3
  · obtain ⟨t0, t1, t2, rfl⟩ : ∃ t0 t1 t2, L = [t0, t1, t2] := by
      match L, h3 with
      | [a, b, c], _ => exact ⟨a, b, c, rfl⟩
    have z0 := hle t0 (by simp)
    have z1 := hle t1 (by simp)
    have z2 := hle t2 (by simp)
    clear hle h3
    have hR : Hid (p3L [t0, t1, t2] 1970 2200 1 12 1 31 = (pNs t0 1970 2200).bind fun r => (pNs t1 1 12).bind fun q => (pNs t2 1 31).map fun p => (r, q, p)) := rfl
    cases o1 : (pNs t0 1970 2200).isSome
    · have hN : Hid (p3L [t0, t1, t2] 1970 2200 1 12 1 31 = none) := by show _ = _; rw [hR.out, none_of o1]; rfl
      refine (pdate1 s t0 t1 t2 b w hg ⟨hb2, hcs, hfs⟩ z0 hSp o1).mono ?_
      rintro e w' ⟨rfl, c1, c2, c3, hC⟩
      exact ⟨by rw [hN.out]; rfl, c1, c2, c3, hC, fun x y z e => by rw [hN.out] at e; cases e⟩
    · cases o2 : (pNs t1 1 12).isSome
      · have hN : Hid (p3L [t0, t1, t2] 1970 2200 1 12 1 31 = none) := by
          show _ = _
          rw [hR.out, none_of o2]
          cases pNs t0 1970 2200 <;> rfl
        refine (pdate2 s t0 t1 t2 b w hg ⟨hb2, hcs, hfs⟩ z0 z1 hSp o1 o2).mono ?_
        rintro e w' ⟨rfl, c1, c2, c3, hC⟩
        exact ⟨by rw [hN.out]; rfl, c1, c2, c3, hC, fun x y z e => by rw [hN.out] at e; cases e⟩
      · have hN : Hid (p3L [t0, t1, t2] 1970 2200 1 12 1 31 = (pNs t2 1 31).map fun p => ((pNs t0 1970 2200).getD [], (pNs t1 1 12).getD [], p)) := by
          show _ = _
          rw [hR.out]
          obtain ⟨x0, e0⟩ := Option.isSome_iff_exists.1 o1
          obtain ⟨x1, e1⟩ := Option.isSome_iff_exists.1 o2
          rw [e0, e1]; rfl
        go_enter Tryd.func29, Tryd.ntmps29
        go_wp2_with fail
        refine hSp.mono ?_
        rintro e w1 ⟨cap, rfl, hcap, hbb, hcells⟩
        have hg1 := hg.below hbb
        have q0 := hcells 0 t0 rfl
        have q1 := hcells 1 t1 rfl
        have q2 := hcells 2 t2 rfl
        have m1 := (hbb.cell (p := ⟨b, 1, none⟩) bl).trans k1
        have m2 := (hbb.cell (p := ⟨b, 2, none⟩) bl).trans k2
        have m3 := (hbb.cell (p := ⟨b, 3, none⟩) bl).trans k3
        have n1 := (hbb.frozen (p := ⟨b, 1, none⟩) bl).trans (hfs 1)
        have n2 := (hbb.frozen (p := ⟨b, 2, none⟩) bl).trans (hfs 2)
        have n3 := (hbb.frozen (p := ⟨b, 3, none⟩) bl).trans (hfs 3)
        have l0 := hg1.gl.lim 0 1970 rfl
        have l1 := hg1.gl.lim 1 2200 rfl
        have l2 := hg1.gl.lim 2 1 rfl
        have l3 := hg1.gl.lim 3 12 rfl
        have l4 := hg1.gl.lim 4 1 rfl
        have l5 := hg1.gl.lim 5 31 rfl
        have hne : w.heap.size ≠ b := by omega
        have hC := St.start 1 hbb bl
        clear hcells hSp hcap hs hg k1 k2 k3 bl hbb hcs hfs
        go_wp2_with fail
        go_region_held3 (fun w' => w'.cell? ⟨w.heap.size, 0, none⟩ = some (.string t0) ∧ w'.cell? ⟨w.heap.size, 1, none⟩ = some (.string t1) ∧ w'.cell? ⟨w.heap.size, 2, none⟩ = some (.string t2) ∧ w'.cell? ⟨0, 0, none⟩ = some (.int .i64 1970) ∧ w'.cell? ⟨0, 1, none⟩ = some (.int .i64 2200) ∧ w'.cell? ⟨0, 2, none⟩ = some (.int .i64 1) ∧ w'.cell? ⟨0, 3, none⟩ = some (.int .i64 12) ∧ w'.cell? ⟨0, 4, none⟩ = some (.int .i64 1) ∧ w'.cell? ⟨0, 5, none⟩ = some (.int .i64 31))
          (first
            | assumption
            | exact hS
            | (refine ⟨?_, ?_, ?_, ?_, ?_, ?_, ?_, ?_, ?_⟩ <;> assumption)
            | (go_split_ands; refine ⟨?_, ?_, ?_, ?_, ?_, ?_, ?_, ?_, ?_⟩ <;> assumption))
          (first
            | (go_at_call 51; refine (pn2 _ _ _ b _ _ _ (by first | exact Or.inl rfl | exact Or.inr rfl) hg1 (by assumption) (by first | exact ⟨_, m1⟩ | exact ⟨_, m2⟩ | exact ⟨_, m3⟩) (by first | exact n1 | exact n2 | exact n3)).mono ?_; rintro e w2 ⟨he, sl, hu, hp⟩; (try rw [o1] at he); (try rw [o2] at he); subst he; replace hg1 := hu.glp hg1 hb2; (try replace m1 := (hu.cell 1 (by decide)).trans m1); (try replace m2 := (hu.cell 2 (by decide)).trans m2); (try replace m3 := (hu.cell 3 (by decide)).trans m3); replace n1 := (hu.froz 1).trans n1; replace n2 := (hu.froz 2).trans n2; replace n3 := (hu.froz 3).trans n3; replace q0 := hu.old hne q0; replace q1 := hu.old hne q1; replace q2 := hu.old hne q2; have hS := And.intro q0 (And.intro q1 (And.intro q2 (And.intro (hg1.gl.lim 0 1970 rfl) (And.intro (hg1.gl.lim 1 2200 rfl) (And.intro (hg1.gl.lim 2 1 rfl) (And.intro (hg1.gl.lim 3 12 rfl) (And.intro (hg1.gl.lim 4 1 rfl) (hg1.gl.lim 5 31 rfl)))))))); (first | replace hC := St.n1 hC hu hp | replace hC := St.n2 hC hu hp | replace hC := St.n3 hC hu hp); clear hu hp))
        go_wp2_with fail
        go_ret
        refine ⟨ret_bool (by rw [hN.out]; simp), _, _, _, (by first | exact hC | exact hC.drew), fun x y z e => ?_⟩
        rw [hN.out] at e
        cases hz : pNs t2 1 31 with
        | none => rw [hz] at e; cases e
        | some p => rw [hz] at e; cases e; exact ⟨rfl, rfl, rfl⟩
  · have hF : Hid (p3L L 1970 2200 1 12 1 31 = none) := by
      show _ = _
      match L, h3 with
      | [], _ => rfl
      | [_], _ => rfl
      | [_, _], _ => rfl
      | [_, _, _], h => exact absurd rfl h
      | _ :: _ :: _ :: _ :: _, _ => rfl
    clear hle
    go_enter Tryd.func29, Tryd.ntmps29
    go_wp2_with fail
    refine hSp.mono ?_
    rintro e w1 ⟨cap, rfl, hcap, hbb, hcells⟩
    have h3' : ¬ ((L.length : Int) = 3) := by omega
    clear h3
    go_wp2_with fail
    go_ret
    exact ⟨by rw [hF.out]; rfl, none, none, none, St.start 1 hbb bl, fun x y z e => by rw [hF.out] at e; cases e⟩
end Go.Proofs.YteaaknbininehabDoor
