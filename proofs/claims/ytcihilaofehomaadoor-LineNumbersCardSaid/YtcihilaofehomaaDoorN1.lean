/- The contract of the reference's Digits, at small numbers. -/
import Derived.Test.YtcihilaofehomaaDoorR1
import Derived.Test.YtcihilaofehomaaDoorLN9
import Derived.Laws.Concat
namespace Go.Proofs.YtcihilaofehomaaDoor
open Go.RowKit Lin
set_option maxRecDepth 100000 in
set_option maxHeartbeats 2000000 in
theorem digits_any (n : Nat) (w : World) (hn : n ≤ 40) :
    Calls Tryd.prog 21 #[.int .i64 n] w fun e w' => e = .returned (.string ⟨(dg n).toArray⟩) ∧ Below w.heap.size w w' := by
  go_enter Tryd.func21, Tryd.ntmps21
  go_wp2
  go_loopw [3, 4] (fun uu ss wr => ∃ (u : Nat) (s : List UInt8), uu = .int .u64 u ∧ ss = .string ⟨s.toArray⟩ ∧ u ≤ 40 ∧ s.length ≤ 20 ∧ Below w.heap.size w wr ∧ Hid (dg n = dg u ++ s)) (fun uu _ _ => (intOf uu).toNat)
  case atStart => exact ⟨n, [], by simp, rfl, hn, by simp, Below.refl _ _, by show _ = _; simp⟩
  case round =>
    obtain ⟨u, s, rfl, rfl, hu, hs, hb, hh⟩ := hrel
    have hsz := hb.size
    have hcv := conv_row (own_lit1 wr (UInt8.ofNat (48 + u % 10)))
    have hcI : ((UInt8.ofNat (48 + u % 10)).toNat : Int) = 48 + (u : Int) % 10 := by
      rw [UInt8.toNat_ofNat_of_lt' (by show _ < 256; omega)]; omega
    rw [hcI] at hcv
    have hdec : Hid (dg n = (if u < 10 then [] else dg (u / 10)) ++ (UInt8.ofNat (48 + u % 10) :: s)) := by
      show _ = _
      rw [hh.out]
      by_cases h10 : u < 10
      · rw [if_pos h10, dg_one h10]; rfl
      · rw [if_neg h10, dg_step h10 hu]; simp
    clear hh hcI
    have hdl := dg_len n
    generalize UInt8.ofNat (48 + u % 10) = c at hcv hdec
    have hadd : ∀ W, (Op.stringOp .add ⟨[c].toArray⟩ ⟨s.toArray⟩).run Tryd.prog W = .ok (.string ⟨(c :: s).toArray⟩) W := fun W => run_string_add_lists W [c] _ (by simp) (by omega)
    by_cases h10 : u < 10
    · have hz : ((u : Int) / 10 == 0) = true := by simp; omega
      go_wp2
      go_ret
      refine ⟨?_, hb.alloc hsz _⟩
      rw [hdec.out, if_pos h10]
      rfl
    · have hz : ((u : Int) / 10 == 0) = false := by simp; omega
      have hlen : Hid ((c :: s).length ≤ 20) := by
        show _ ≤ _
        have := congrArg List.length hdec.out
        rw [List.length_append] at this
        omega
      go_wp2
      exact ⟨⟨u / 10, c :: s, by go_num, rfl, by omega, hlen.out, hb.alloc hsz _, by show _ = _; rw [hdec.out, if_neg h10]⟩, by simp [intOf]; omega⟩
end Go.Proofs.YtcihilaofehomaaDoor
