/- The contract of package span's cutNumber: the digits at the head of a text. -/
import Derived.Test.YtlnfapkpehhafaaDoorW1
import Derived.BigQuiet
import Derived.Deep.QuietTactic
import Derived.Lib.IndexBytes
namespace Go.Proofs.YtlnfapkpehhafaaDoor
open Go.RowKit
theorem numV_ok {l : List UInt8} (h : (Sp.dg l).length ≤ 18) : Sp.numV l = Sp.valS (l.take (Sp.dg l).length) := by
  unfold Sp.numV; rw [if_neg (by omega), ← Sp.dg_take l _ (Nat.le_refl _), List.take_length]
theorem numR_ok {l : List UInt8} (h : (Sp.dg l).length ≤ 18) : Sp.numR l = l.drop (Sp.dg l).length := by
  unfold Sp.numR; rw [if_neg (by omega)]
theorem numB_ok {l : List UInt8} (h : (Sp.dg l).length ≤ 18) : Sp.numB l = decide (0 < (Sp.dg l).length) := by
  unfold Sp.numB; simp [h]
theorem num_no {l : List UInt8} (h : 18 < (Sp.dg l).length) : Sp.numV l = 0 ∧ Sp.numR l = [] ∧ Sp.numB l = false := by
  unfold Sp.numV Sp.numR Sp.numB; rw [if_pos h, if_pos h]; simp; omega
theorem ext_end (s : ByteArray) (k : Nat) : s.extract k s.size = ⟨(s.data.toList.drop k).toArray⟩ := by
  have h := Lib.extract_to_end s k
  rw [← h]
theorem w64 (n : Int) (h : -9223372036854775808 ≤ n) (h' : n ≤ 9223372036854775807) : wrap64 n = n := by unfold wrap64; omega
theorem step_val (v d : Int) (h0 : 0 ≤ v) (h1 : v < 100000000000000000) (hd : 48 ≤ d) (hd' : d ≤ 57) : wrap64 (wrap64 (v * 10) + (d - 48)) = v * 10 + (d - 48) := by
  rw [w64 (v * 10) (by omega) (by omega), w64 _ (by omega) (by omega)]
theorem size_list (s : ByteArray) : s.data.toList.length = s.size := by rw [Array.length_toList]; rfl
theorem num_fin (v v' : Int) (r r' : List UInt8) (b b' : Bool) (h : v = v' ∧ r = r' ∧ b = b') (s : ByteArray) (hs : s = ⟨r'.toArray⟩) : Ending.returned (.tuple #[.int .i64 v', .string s, .bool b']) = .returned (.tuple #[.int .i64 v, .string ⟨r.toArray⟩, .bool b]) := by
  obtain ⟨rfl, rfl, rfl⟩ := h; rw [hs]
set_option maxHeartbeats 1000000 in
theorem cutNumber_b (s : ByteArray) (w : World) (hl : s.size ≤ maxLen) :
    Calls Tryd.prog 35 #[.string s] w fun e w' => e = .returned (.tuple #[.int .i64 (Sp.numV s.data.toList), .string ⟨(Sp.numR s.data.toList).toArray⟩, .bool (Sp.numB s.data.toList)]) ∧ ∃ n, w' = w.drewN n := by
  unfold maxLen at hl
  have hls : s.data.toList.length = s.size := size_list s
  have hd := Sp.dg_le s.data.toList
  rw [hls] at hd
  have hls' : Hid (s.data.toList.length = s.size) := hls
  clear hls
  go_enter Tryd.func35, Tryd.ntmps35
  go_wp2
  go_loop [5, 6] (fun n i => ∃ k : Nat, k ≤ (Sp.dg s.data.toList).length ∧ k ≤ 18 ∧ i = .int .i64 k ∧ n = .int .i64 (Sp.valS (s.data.toList.take k))) (fun _ i => (Sp.dg s.data.toList).length - (intOf i).toNat)
  case atStart => exact ⟨0, Nat.zero_le _, Nat.zero_le _, rfl, rfl⟩
  case round =>
    obtain ⟨k, hk, h18, rfl, rfl⟩ := hrel
    obtain ⟨hv0, hv1⟩ := Sp.valS_take_bd s.data.toList k hk h18
    by_cases hlt : k < (Sp.dg s.data.toList).length
    · have hkl : k < s.size := by omega
      have hg := Sp.dg_get s.data.toList k hlt (by rw [hls'.out]; exact hkl)
      have hc1 : 48 ≤ (s[k].toNat : Int) := hg.1
      have hc2 : (s[k].toNat : Int) ≤ 57 := hg.2
      clear hg
      by_cases hk18 : k = 18
      · subst hk18
        have hno : Hid (Sp.numV s.data.toList = 0 ∧ Sp.numR s.data.toList = [] ∧ Sp.numB s.data.toList = false) := num_no hlt
        go_wp2
        go_ret3
        obtain ⟨e1, e2, e3⟩ := hno.out
        rw [e1, e2, e3]
        exact ⟨rfl, 0, rfl⟩
      · have hs : Hid (Sp.valS (s.data.toList.take (k + 1)) = Sp.valS (s.data.toList.take k) * 10 + ((s[k].toNat : Int) - 48)) := Sp.valS_take s.data.toList k (by rw [hls'.out]; exact hkl)
        have hb : ((k : Int) == 18) = false := by simp; omega
        have hk18' : k < 18 := by omega
        have hv2 : Hid (Sp.valS (s.data.toList.take k) < 100000000000000000) := Sp.valS_take_bd17 s.data.toList k hk (by omega)
        clear hk18
        go_wp2
        exact ⟨⟨k + 1, by omega, by omega, by go_num, by rw [hs.out, step_val _ _ hv0 hv2.out hc1 hc2]⟩, by simp [intOf]; omega⟩
    · have hke : k = (Sp.dg s.data.toList).length := by omega
      have HK : Hid (k = (Sp.dg s.data.toList).length) := hke
      have fin : Hid (Sp.numV s.data.toList = Sp.valS (s.data.toList.take k) ∧ Sp.numR s.data.toList = s.data.toList.drop k ∧ Sp.numB s.data.toList = decide (0 < (k : Int))) := by
        have h18' : (Sp.dg s.data.toList).length ≤ 18 := by omega
        refine ⟨by rw [numV_ok h18', HK.out], by rw [numR_ok h18', HK.out], by rw [numB_ok h18', HK.out]; simp⟩
      have hks : k ≤ s.size := by omega
      clear hke hlt hk
      by_cases hkl : k < s.size
      · have hst : ¬ (48 ≤ (s[k].toNat : Int) ∧ (s[k].toNat : Int) ≤ 57) := by
          have := Sp.dg_stop s.data.toList (by rw [hls'.out, ← HK.out]; exact hkl)
          simp only [← HK.out] at this
          exact this
        go_wp2
        all_goals (go_quiet (fail))
        all_goals go_wp2
        all_goals go_ret3
        all_goals exact ⟨num_fin _ _ _ _ _ _ (by simpa using fin.out) _ (ext_end s k), _, rfl⟩
      · go_wp2
        all_goals (go_quiet (fail))
        all_goals go_wp2
        all_goals go_ret3
        all_goals exact ⟨num_fin _ _ _ _ _ _ (by simpa using fin.out) _ (ext_end s k), _, rfl⟩
end Go.Proofs.YtlnfapkpehhafaaDoor
