/- The contract of package span's Parse. -/
import Derived.Test.YtlnfapkpehhafaaDoorW4
namespace Go.Proofs.YtlnfapkpehhafaaDoor
open Go.RowKit
def lenOf : Value → Nat
  | .string b => b.size
  | _ => 0
theorem readIn_below {w w' : World} (hT : ReadIn w) (h1 : 1 < w.heap.size) (hb : Below w.heap.size w w') : ReadIn w' := fun j v hv => (hb.cell (p := ⟨1, j, none⟩) h1).trans (hT j v hv)
set_option maxHeartbeats 1000000 in
theorem parse_l (l : List UInt8) (w : World) (hl : l.length ≤ maxLen) (hT : ReadIn w) (h1 : 1 < w.heap.size) :
    Calls Tryd.prog 16 #[.string ⟨l.toArray⟩] w fun e w' => e = .returned (.tuple #[.int .i64 (Sp.parseV l), .int .i64 (Sp.parseE l)]) ∧ Below w.heap.size w w' := by
  by_cases hinf : l = Sp.infL
  · subst hinf
    have hp : Hid (Sp.parseV Sp.infL = 9223372036854775807 ∧ Sp.parseE Sp.infL = 0) := by constructor <;> decide +kernel
    unfold Sp.infL at hp ⊢
    go_enter Tryd.func16, Tryd.ntmps16
    go_wp2_with fail
    go_ret2
    rw [hp.out.1, hp.out.2]
    exact ⟨rfl, Below.refl _ _⟩
  · have hne : (l == [105, 110, 102, 105, 110, 105, 116, 121]) = false := by simpa [Sp.infL] using hinf
    have hbl := Sp.blk_le l
    have hpar : Hid (Sp.parse l = if (Sp.blk l).isEmpty then none else Sp.parseGo l.length 0 (Sp.blk l)) := by
      show _ = _
      unfold Sp.parse Sp.infL
      rw [hne]
      rfl
    clear hinf
    unfold maxLen at hl
    go_enter Tryd.func16, Tryd.ntmps16
    go_wp2_with fail
    refine (skip_l _ _).mono ?_
    rintro e w1 ⟨rfl, rfl⟩
    generalize Sp.blk l = R at hbl hpar ⊢
    cases R with
    | nil =>
      go_wp2_with fail
      go_ret2
      refine ⟨?_, Below.refl _ _⟩
      unfold Sp.parseV Sp.parseE
      rw [hpar.out]
      rfl
    | cons c r =>
      have hp2 : Hid (Sp.parse l = Sp.parseGo l.length 0 (c :: r)) := hpar
      clear hpar
      have hbl2 : Hid ((c :: r).length ≤ l.length) := hbl
      clear hbl
      have hE : (c :: r).isEmpty = false := rfl
      generalize c :: r = R at hp2 hbl2 hE ⊢
      go_wp2_with fail
      clear hE
      go_loopw [4, 5] (fun rest sum wr => ∃ (f : Nat) (q : List UInt8) (t : Int), rest = .string ⟨q.toArray⟩ ∧ sum = .int .i64 t ∧ q.length ≤ f ∧ q.length ≤ l.length ∧ -9223372036854775808 ≤ t ∧ t ≤ 9223372036854775807 ∧ Below w1.heap.size w1 wr ∧ Hid (Sp.parse l = Sp.parseGo f t q)) (fun rest _ _ => lenOf rest)
      case atStart => exact ⟨l.length, R, 0, rfl, rfl, hbl2.out, hbl2.out, by omega, by omega, Below.refl _ _, hp2⟩
      case round =>
        obtain ⟨f, q, t, rfl, rfl, hqf, hql, ht0, ht1, hb, hp⟩ := hrel
        cases q with
        | nil =>
          go_wp2_with fail
          go_ret2
          refine ⟨?_, hb⟩
          unfold Sp.parseV Sp.parseE
          rw [hp.out, Sp.parseGo_nil]
          rfl
        | cons d q =>
          have hE : (d :: q).isEmpty = false := rfl
          have hne2 : Hid (d :: q ≠ []) := by show _ ≠ _; simp
          have hqf2 : Hid ((d :: q).length ≤ f) := hqf
          have hql2 : Hid ((d :: q).length ≤ l.length) := hql
          clear hqf hql
          generalize d :: q = q at hE hne2 hqf2 hql2 hp ⊢
          have hT2 := readIn_below hT h1 hb
          by_cases hB : Sp.partB q = true
          · have hV : 0 ≤ partV0 q ∧ partV0 q ≤ 9223372036854775807 := by
              unfold partV0 Sp.partV
              rw [if_pos hB]
              exact Sp.timesS_bd _ _ (numV_bd q).1 (unit_bd _).1
            obtain ⟨hV0, hV1⟩ := hV
            go_wp2_with fail
            refine (cutPart_l _ _ (by have := hql2.out; unfold maxLen; omega) hT2).mono ?_
            rintro e w2 ⟨rfl, hb2⟩
            go_wp2_with fail
            refine (add_any _ _ _ ht0 ht1 (by omega) hV1).mono ?_
            rintro e w3 ⟨rfl, rfl⟩
            go_wp2_with fail
            obtain ⟨g, hg, he⟩ := Sp.parseGo_yes f t q hne2.out hqf2.out hB
            have hlt := Sp.partR_lt q hB
            have hR : partR0 q = Sp.partR q := by unfold partR0; rw [if_pos hB]
            have hV : partV0 q = Sp.partV q := by unfold partV0; rw [if_pos hB]
            rw [hR, hV]
            have ha := Sp.addS_bd t (Sp.partV q)
            have hq := hql2.out
            exact ⟨⟨g, Sp.partR q, Sp.addS t (Sp.partV q), rfl, rfl, hg, by omega, ha.1, ha.2, hb.trans (hb2.mono hb.size), hp.out.trans he⟩, hlt⟩
          · have hB' : Sp.partB q = false := by simpa using hB
            clear hB
            have hno := Sp.parseGo_no f t q hne2.out hB'
            have hno2 : Hid (Sp.parse l = none) := hp.out.trans hno
            clear hno hp
            go_wp2_with fail
            refine (cutPart_l _ _ (by have := hql2.out; unfold maxLen; omega) hT2).mono ?_
            rintro e w2 ⟨rfl, hb2⟩
            go_wp2_with fail
            go_ret2
            refine ⟨?_, hb.trans (hb2.mono hb.size)⟩
            unfold Sp.parseV Sp.parseE
            rw [hno2.out]
            rfl
end Go.Proofs.YtlnfapkpehhafaaDoor
