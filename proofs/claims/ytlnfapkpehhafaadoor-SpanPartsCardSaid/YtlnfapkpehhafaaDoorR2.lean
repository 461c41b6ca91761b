/- The contract of the reference's Digits, at 0 and above: the decimal numeral. -/
import Derived.Test.YtlnfapkpehhafaaDoorW8
import Derived.Test.YtlnfapkpehhafaaDoorMath3
namespace Go.Proofs.YtlnfapkpehhafaaDoor
open Go.RowKit
theorem dec19 (u : Nat) (h : u ≤ 9223372036854775807) : (Lib.decDigits u).length ≤ 19 := by
  have : (10 : Nat) ^ (18 + 1) = 10000000000000000000 := by decide
  exact Sp.dec_len 18 u (by omega)
theorem conv1 (W : World) (d : Nat) (h : d < 10) (x : Int) (hx : x = 48 + (d : Int)) : (convert 40 9 (.slice (some ⟨W.heap.size, 0, none⟩) 1 1)).run Tryd.prog (W.alloc (.cells #[.int .u8 x] 5)) = .ok (.string ⟨[UInt8.ofNat (48 + d)].toArray⟩) (W.alloc (.cells #[.int .u8 x] 5)) := by
  refine run_convert_bytes_back _ 40 9 5 ⟨W.heap.size, 0, none⟩ 1 [UInt8.ofNat (48 + d)] Tryd.underlying40 Tryd.underlying5 Tryd.underlying9 ?_
  intro j hj
  obtain rfl : j = 0 := by simpa using hj
  exact World.news_of_block (cs := #[.int .u8 x]) (t := 5) (fr := (0, 0)) (heap_alloc_new W _) 0 _ (by simp [hx]; omega)
set_option maxRecDepth 100000 in
set_option maxHeartbeats 1000000 in
theorem digits_any (n : Nat) (w : World) (hn : n ≤ 9223372036854775807) :
    Calls Tryd.prog 20 #[.int .i64 n] w fun e w' => e = .returned (.string ⟨(Lib.decDigits n).toArray⟩) ∧ Below w.heap.size w w' := by
  have h19 := dec19 n hn
  go_enter Tryd.func20, Tryd.ntmps20
  go_wp2
  go_loopw [3, 4] (fun uu ss wr => ∃ (u : Nat) (s : List UInt8), uu = .int .u64 u ∧ ss = .string ⟨s.toArray⟩ ∧ u ≤ n ∧ s.length ≤ 20 ∧ Below w.heap.size w wr ∧ Hid (Lib.decDigits n = Lib.decDigits u ++ s)) (fun uu _ _ => (intOf uu).toNat)
  case atStart => exact ⟨n, [], by simp, rfl, Nat.le_refl _, by simp, Below.refl _ _, by show _ = _; simp⟩
  case round =>
    obtain ⟨u, s, rfl, rfl, hu, hs, hb, hh⟩ := hrel
    have hsz := hb.size
    have hcv := conv1 wr (u % 10) (by omega) (48 + (u : Int) % 10) (by omega)
    have hdec : Hid (Lib.decDigits n = (if u < 10 then [] else Lib.decDigits (u / 10)) ++ (UInt8.ofNat (48 + u % 10) :: s)) := by
      show _ = _
      rw [hh.out]
      by_cases h10 : u < 10
      · rw [if_pos h10, Lib.decDigits_one h10, Nat.mod_eq_of_lt h10]; rfl
      · rw [if_neg h10, Sp.dec_step h10]; simp
    clear hh
    generalize UInt8.ofNat (48 + u % 10) = c at hcv hdec
    have hadd : ∀ W, (Op.stringOp .add ⟨[c].toArray⟩ ⟨s.toArray⟩).run Tryd.prog W = .ok (.string ⟨(c :: s).toArray⟩) W := fun W => run_string_add_lists W [c] _ (by simp) (by omega)
    by_cases h10 : u < 10
    · have hz : ((u : Int) / 10 == 0) = true := by simp; omega
      go_wp2
      go_ret
      refine ⟨?_, hb.alloc hsz _⟩
      rw [hdec.out, if_pos h10]
      rfl
    · have hz : ((u : Int) / 10 == 0) = false := by simp; omega
      have hlen : Hid ((c :: s).length ≤ 20) := by
        show _ ≤ _
        have := congrArg List.length hdec.out
        rw [List.length_append] at this
        omega
      go_wp2
      exact ⟨⟨u / 10, c :: s, by go_num, rfl, by omega, hlen.out, hb.alloc hsz _, by show _ = _; rw [hdec.out, if_neg h10]⟩, by simp [intOf]; omega⟩
end Go.Proofs.YtlnfapkpehhafaaDoor
