/- Contracts of the reference's Digits, at 0 and above, and of its Padded at the widths of a moment's text. -/
import Derived.Test.YtgogbbhbkckfgaaDoorP1
import Derived.Deep.AppendLies
namespace Go.Proofs.YtgogbbhbkckfgaaDoor
open Go.RowKit Go.Sort
theorem conv1 (W : World) (d : Nat) (h : d < 10) (x : Int) (hx : x = 48 + (d : Int)) : (convert 71 9 (.slice (some ⟨W.heap.size, 0, none⟩) 1 1)).run Tryd.prog (W.alloc (.cells #[.int .u8 x] 5)) = .ok (.string ⟨[UInt8.ofNat (48 + d)].toArray⟩) (W.alloc (.cells #[.int .u8 x] 5)) := by
  refine run_convert_bytes_back _ 71 9 5 ⟨W.heap.size, 0, none⟩ 1 [UInt8.ofNat (48 + d)] Tryd.underlying71 Tryd.underlying5 Tryd.underlying9 ?_
  intro j hj
  obtain rfl : j = 0 := by simpa using hj
  exact World.news_of_block (cs := #[.int .u8 x]) (t := 5) (fr := (0, 0)) (heap_alloc_new W _) 0 _ (by simp [hx]; omega)
theorem dec_len4 {u : Nat} (h : u < 10000) : (Lib.decDigits u).length ≤ 4 := by
  by_cases h1 : u < 10
  · rw [Lib.decDigits_one h1]; simp
  · by_cases h2 : u < 100
    · rw [Civ.dec_d2 (by omega) h2]; simp [Civ.d2]
    · by_cases h3 : u < 1000
      · rw [Civ.dec_step h1, Civ.dec_d2 (by omega) (by omega)]; simp [Civ.d2]
      · rw [Civ.dec_d4 (by omega) h]; simp [Civ.d4, Civ.d2]
set_option maxRecDepth 100000 in
set_option maxHeartbeats 1000000 in
theorem digits_any (n : Nat) (w : World) (hn : n < 10000) :
    Calls Tryd.prog 44 #[.int .i64 n] w fun e w' => e = .returned (.string ⟨(Lib.decDigits n).toArray⟩) ∧ Below w.heap.size w w' := by
  have h19 := dec_len4 hn
  go_enter Tryd.func44, Tryd.ntmps44
  go_wp2
  go_loopw [3, 4] (fun uu ss wr => ∃ (u : Nat) (s : List UInt8), uu = .int .u64 u ∧ ss = .string ⟨s.toArray⟩ ∧ u ≤ n ∧ s.length ≤ 20 ∧ Below w.heap.size w wr ∧ Hid (Lib.decDigits n = Lib.decDigits u ++ s)) (fun uu _ _ => (intOf uu).toNat)
  case atStart => exact ⟨n, [], by simp, rfl, Nat.le_refl _, by simp, Below.refl _ _, by show _ = _; simp⟩
  case round =>
    obtain ⟨u, s, rfl, rfl, hu, hs, hb, hh⟩ := hrel
    have hsz := hb.size
    have hcv := conv1 wr (u % 10) (by omega) (48 + (u : Int) % 10) (by omega)
    have hdec : Hid (Lib.decDigits n = (if u < 10 then [] else Lib.decDigits (u / 10)) ++ (UInt8.ofNat (48 + u % 10) :: s)) := by
      show _ = _
      rw [hh.out]
      by_cases h10 : u < 10
      · rw [if_pos h10, Lib.decDigits_one h10, Nat.mod_eq_of_lt h10]; rfl
      · rw [if_neg h10, Civ.dec_step h10]; simp
    clear hh
    generalize UInt8.ofNat (48 + u % 10) = c at hcv hdec
    have hadd : ∀ W, (Op.stringOp .add ⟨[c].toArray⟩ ⟨s.toArray⟩).run Tryd.prog W = .ok (.string ⟨(c :: s).toArray⟩) W := fun W => run_string_add_lists W [c] _ (by simp) (by omega)
    by_cases h10 : u < 10
    · have hz : ((u : Int) / 10 == 0) = true := by simp; omega
      go_wp2
      go_ret
      refine ⟨?_, hb.alloc hsz _⟩
      rw [hdec.out, if_pos h10]
      rfl
    · have hz : ((u : Int) / 10 == 0) = false := by simp; omega
      have hlen : Hid ((c :: s).length ≤ 20) := by
        show _ ≤ _
        have := congrArg List.length hdec.out
        rw [List.length_append] at this
        omega
      go_wp2
      exact ⟨⟨u / 10, c :: s, by go_num, rfl, by omega, hlen.out, hb.alloc hsz _, by show _ = _; rw [hdec.out, if_neg h10]⟩, by simp [intOf]; omega⟩
set_option maxRecDepth 100000 in
set_option maxHeartbeats 1000000 in
/-- A text that is long enough stays. -/
theorem pad_long (n k : Nat) (w : World) (hn : n < 10000) (hk : k ≤ (Lib.decDigits n).length) :
    Calls Tryd.prog 36 #[.int .i64 n, .int .i64 k] w fun e w' => e = .returned (.string ⟨(Lib.decDigits n).toArray⟩) ∧ Below w.heap.size w w' := by
  have hl := digits_any n w hn
  have h4 := dec_len4 hn
  generalize Lib.decDigits n = D at *
  go_enter Tryd.func36, Tryd.ntmps36
  go_wp2_with fail
  refine hl.mono ?_
  rintro e w1 ⟨rfl, hb1⟩
  go_wp2_with fail
  go_loop [5] (fun s => s = .string ⟨D.toArray⟩) (fun _ => 0)
  case atStart => rfl
  case round =>
    subst hrel
    go_wp2_with fail
    go_ret
    exact ⟨rfl, hb1⟩
set_option maxRecDepth 100000 in
set_option maxHeartbeats 1000000 in
theorem pad_one (n : Nat) (w : World) (hn : n < 10) :
    Calls Tryd.prog 36 #[.int .i64 n, .int .i64 2] w fun e w' => e = .returned (.string ⟨(Civ.d2 n).toArray⟩) ∧ Below w.heap.size w w' := by
  have hl := digits_any n w (by omega)
  have hd : Hid ([48] ++ Lib.decDigits n = Civ.d2 n) := Civ.dec_d1 hn
  have h1 : (Lib.decDigits n).length = 1 := by rw [Lib.decDigits_one hn]; rfl
  have hadd : ∀ W, (Op.stringOp .add ⟨#[48]⟩ ⟨(Lib.decDigits n).toArray⟩).run Tryd.prog W = .ok (.string ⟨([48] ++ Lib.decDigits n).toArray⟩) W := fun W => run_string_add_lists W [48] _ (by simp) (by omega)
  have h2 : (Civ.d2 n).length = 2 := rfl
  rw [hd.out] at hadd
  generalize Lib.decDigits n = D at *
  generalize Civ.d2 n = E at *
  go_enter Tryd.func36, Tryd.ntmps36
  go_wp2_with fail
  refine hl.mono ?_
  rintro e w1 ⟨rfl, hb1⟩
  go_wp2_with fail
  go_loop [5] (fun s => ∃ F : List UInt8, s = .string ⟨F.toArray⟩ ∧ (F = D ∨ F = E)) (fun s => match s with | .string b => 2 - b.size | _ => 0)
  case atStart => exact ⟨D, rfl, .inl rfl⟩
  case round =>
    obtain ⟨F, rfl, rfl | rfl⟩ := hrel
    · go_wp2_with fail
      exact ⟨⟨E, rfl, .inr rfl⟩, by simp [ByteArray.size, h1, h2]⟩
    · go_wp2_with fail
      go_ret
      exact ⟨rfl, hb1⟩
theorem pad2_any (n : Nat) (w : World) (hn : n < 100) :
    Calls Tryd.prog 36 #[.int .i64 n, .int .i64 2] w fun e w' => e = .returned (.string ⟨(Civ.d2 n).toArray⟩) ∧ Below w.heap.size w w' := by
  by_cases h : n < 10
  · exact pad_one n w h
  · have := pad_long n 2 w (by omega) (by rw [Civ.dec_d2 (by omega) hn]; simp [Civ.d2])
    rw [Civ.dec_d2 (by omega) hn] at this
    exact this
theorem pad4_any (n : Nat) (w : World) (h0 : 1000 ≤ n) (hn : n < 10000) :
    Calls Tryd.prog 36 #[.int .i64 n, .int .i64 4] w fun e w' => e = .returned (.string ⟨(Civ.d4 n).toArray⟩) ∧ Below w.heap.size w w' := by
  have := pad_long n 4 w hn (by rw [Civ.dec_d4 h0 hn]; simp [Civ.d4, Civ.d2])
  rw [Civ.dec_d4 h0 hn] at this
  exact this
end Go.Proofs.YtgogbbhbkckfgaaDoor
