/- Contracts of package span's skipBlanks and cutPart. -/
import Derived.Test.YtlnfapkpehhafaaDoorW3
namespace Go.Proofs.YtlnfapkpehhafaaDoor
open Go.RowKit
theorem mk_list (l : List UInt8) : (⟨l.toArray⟩ : ByteArray).data.toList = l := rfl
set_option maxHeartbeats 400000 in
theorem skip_l (l : List UInt8) (w : World) :
    Calls Tryd.prog 23 #[.string ⟨l.toArray⟩] w fun e w' => e = .returned (.string ⟨(Sp.blk l).toArray⟩) ∧ w' = w := by
  go_enter Tryd.func23, Tryd.ntmps23
  go_wp2_with (go_at_call 34; refine (Tryd.strings_TrimLeft_one _ 32 (by decide) _).mono ?_; rintro e w' ⟨rfl, rfl⟩)
  go_ret
  exact ⟨rfl, rfl⟩
theorem cutNumber_l (l : List UInt8) (w : World) (hl : l.length ≤ maxLen) :
    Calls Tryd.prog 35 #[.string ⟨l.toArray⟩] w fun e w' => e = .returned (.tuple #[.int .i64 (Sp.numV l), .string ⟨(Sp.numR l).toArray⟩, .bool (Sp.numB l)]) ∧ ∃ n, w' = w.drewN n :=
  cutNumber_b ⟨l.toArray⟩ w hl
theorem cutUnit_l (l : List UInt8) (w : World) (hT : ReadIn w) :
    Calls Tryd.prog 36 #[.string ⟨l.toArray⟩] w fun e w' => e = .returned (.tuple #[.int .i64 (Sp.unitV Sp.readT l), .string ⟨(Sp.unitR Sp.readT l).toArray⟩, .bool (Sp.unitB Sp.readT l)]) ∧ Below w.heap.size w w' :=
  cutUnit_b ⟨l.toArray⟩ w hT
theorem below_drewN (w : World) (n : Nat) : Below w.heap.size w (w.drewN n) := by
  induction n with
  | zero => exact Below.refl _ _
  | succ n ih => exact ih.drew
def partV0 (l : List UInt8) : Int := if Sp.partB l then Sp.partV l else 0
def partR0 (l : List UInt8) : List UInt8 := if Sp.partB l then Sp.partR l else []
theorem unitV_bd (T : List (List UInt8 × Int)) (hT : ∀ x ∈ T, 1 ≤ x.2 ∧ x.2 ≤ 604800) (l : List UInt8) : 1 ≤ Sp.unitV T l ∧ Sp.unitV T l ≤ 604800 := by
  induction T with
  | nil => simp [Sp.unitV]
  | cons x r ih =>
    obtain ⟨p, k⟩ := x
    have h1 := hT (p, k) (by simp)
    have h2 := ih (fun y hy => hT y (by simp [hy]))
    unfold Sp.unitV
    split
    · exact h1
    · exact h2
theorem unit_bd (l : List UInt8) : 1 ≤ Sp.unitV Sp.readT l ∧ Sp.unitV Sp.readT l ≤ 604800 := unitV_bd _ (by decide) l
theorem numV_bd (l : List UInt8) : 0 ≤ Sp.numV l ∧ Sp.numV l < 1000000000000000000 := by
  by_cases h : (Sp.dg l).length ≤ 18
  · rw [numV_ok h]; exact Sp.valS_take_bd l _ (Nat.le_refl _) h
  · unfold Sp.numV; rw [if_pos (by omega)]; omega
set_option maxHeartbeats 1000000 in
theorem cutPart_l (l : List UInt8) (w : World) (hl : l.length ≤ maxLen) (hT : ReadIn w) :
    Calls Tryd.prog 24 #[.string ⟨l.toArray⟩] w fun e w' => e = .returned (.tuple #[.int .i64 (partV0 l), .string ⟨(partR0 l).toArray⟩, .bool (Sp.partB l)]) ∧ Below w.heap.size w w' := by
  obtain ⟨hu1, hu2⟩ := unit_bd (Sp.blk (Sp.numR l))
  obtain ⟨hn1, hn2⟩ := numV_bd l
  have HT : ∀ n, ReadIn (w.drewN n) := fun n => hT
  go_enter Tryd.func24, Tryd.ntmps24
  go_wp2_with fail
  refine (cutNumber_l l _ hl).mono ?_
  rintro e w1 ⟨rfl, n1, rfl⟩
  by_cases hb : Sp.numB l = true
  · go_wp2_with fail
    refine (skip_l _ _).mono ?_
    rintro e w1 ⟨rfl, rfl⟩
    go_wp2_with fail
    refine (cutUnit_l _ _ (HT _)).mono ?_
    rintro e w1 ⟨rfl, hb1⟩
    go_wp2_with fail
    refine (skip_l _ _).mono ?_
    rintro e w1 ⟨rfl, rfl⟩
    have hfin : Below w.heap.size w w1 := (below_drewN w n1).trans (hb1.mono (below_drewN w n1).size)
    clear hb1
    by_cases hu : Sp.unitB Sp.readT (Sp.blk (Sp.numR l)) = true
    · have hp : Hid (Sp.partB l = true) := by show _ = _; unfold Sp.partB Sp.aftR; rw [hb, hu]; rfl
      go_wp2_with fail
      refine (times_any _ _ _ hn1 hu1 hu2).mono ?_
      rintro e w2 ⟨rfl, rfl⟩
      go_wp2_with fail
      go_ret3
      refine ⟨?_, hfin⟩
      unfold partV0 partR0
      rw [hp.out]
      rfl
    · have hu' : Sp.unitB Sp.readT (Sp.blk (Sp.numR l)) = false := by simpa using hu
      clear hu
      generalize hR : Sp.blk (Sp.unitR Sp.readT (Sp.blk (Sp.numR l))) = R
      have HR : Hid (Sp.blk (Sp.unitR Sp.readT (Sp.blk (Sp.numR l))) = R) := hR
      clear hR
      cases R with
      | nil =>
        have hp : Hid (Sp.partB l = true) := by show _ = _; unfold Sp.partB Sp.aftR Sp.partR Sp.aftR; rw [hb, hu', HR.out]; rfl
        go_wp2_with fail
        refine (times_any _ _ _ hn1 hu1 hu2).mono ?_
        rintro e w2 ⟨rfl, rfl⟩
        go_wp2_with fail
        go_ret3
        refine ⟨?_, hfin⟩
        unfold partV0 partR0
        rw [hp.out]
        unfold Sp.partR Sp.aftR
        simp only [HR.out]
        rfl
      | cons c r =>
        have hp : Hid (Sp.partB l = false) := by show _ = _; unfold Sp.partB Sp.aftR Sp.partR Sp.aftR; rw [hb, hu', HR.out]; rfl
        go_wp2_with fail
        go_ret3
        refine ⟨?_, hfin⟩
        unfold partV0 partR0
        rw [hp.out]
        rfl
  · have hb' : Sp.numB l = false := by simpa using hb
    clear hb
    have hp : Hid (Sp.partB l = false) := by show _ = _; unfold Sp.partB; rw [hb']; rfl
    go_wp2_with fail
    go_ret3
    refine ⟨?_, below_drewN w n1⟩
    unfold partV0 partR0
    rw [hp.out]
    rfl
end Go.Proofs.YtlnfapkpehhafaaDoor
