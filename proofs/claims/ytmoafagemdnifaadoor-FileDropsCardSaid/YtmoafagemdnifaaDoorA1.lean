/- Contracts of strings.IndexRune at a blank and a tab, of strings.IndexAny at these for every text, of package line's blankAt. -/
import Derived.Test.YtmoafagemdnifaaDoorU
import Derived.Laws.RangeAny
import Derived.Laws.Runes
import Derived.Deep.LoopGhost
import Derived.Lib.TrimU
import Derived.Lib.OthersKept
import Derived.WalkMore
namespace Go.Proofs.YtmoafagemdnifaaDoor
open Go.RowKit Lin
abbrev blS : ByteArray := ⟨#[32, 9]⟩
set_option maxHeartbeats 2000000 in
theorem validRune_any (r : Int) (w : World) (h0 : 0 ≤ r) (h1 : r ≤ 1114111) :
    Calls Tryd.prog 93 #[.int .i32 r] w fun e w' => e = .returned (.bool (Utf8.valid r)) ∧ w' = w := by
  have hA : Hid (Utf8.valid r = ((decide (0 ≤ r) && decide (r < 55296)) || (decide (57344 ≤ r) && decide (r ≤ 1114111)))) := rfl
  go_enter Tryd.func93, Tryd.ntmps93
  go_wp2
  all_goals
    go_ret
    refine ⟨ret_bool ?_, rfl⟩
    rw [hA.out]
    first | (simp; omega) | (rw [Bool.eq_iff_iff]; simp; omega) | (rw [Bool.eq_iff_iff]; simp at *; omega)
set_option maxRecDepth 100000 in
set_option maxHeartbeats 4000000 in
theorem indexRune_err (w : World) :
    Calls Tryd.prog 85 #[.string blS, .int .i32 65533] w fun e w' => e = .returned (.int .i64 (-1)) ∧ Below w.heap.size w w' := by
  go_enter Tryd.func85, Tryd.ntmps85
  go_wp2_with fail
  go_loopg [5, 6] 2 (fun g _ _ wx => ∃ i : Nat, i + g = 2 ∧ wx = w.iter blS i)
  case atStart => exact ⟨0, by omega, rfl⟩
  case round =>
    obtain ⟨i, hig, rfl⟩ := hrel
    match i, hig with
    | 0, hig =>
      obtain rfl : gk = 2 := by omega
      have hnx := fun ty => run_next_ascii (P := Tryd.prog) w blS 0 ty (by decide) (by decide)
      go_wp2_with fail
      go_roundg 1
      case measure => omega
      case rel => exact ⟨1, by omega, rfl⟩
    | 1, hig =>
      obtain rfl : gk = 1 := by omega
      have hnx := fun ty => run_next_ascii (P := Tryd.prog) w blS 1 ty (by decide) (by decide)
      go_wp2_with fail
      go_roundg 0
      case measure => omega
      case rel => exact ⟨2, by omega, rfl⟩
    | 2, hig =>
      obtain rfl : gk = 0 := by omega
      have hnx := fun ty => run_next_end (P := Tryd.prog) w blS 2 ty (by decide)
      go_wp2_with fail
      go_ret
      exact ⟨rfl, (Below.refl _ _).alloc (Nat.le_refl _) _⟩
    | n + 3, hig => omega
/-- What a text's bytes beyond ASCII are read as: a rune beyond ASCII, of such bytes alone. -/
theorem decode_facts (s : ByteArray) (pos : Nat) (h : pos < s.size) (hb : 128 ≤ (s.get! pos).toNat) :
    128 ≤ (Utf8.decode s pos).1 ∧ 1 ≤ (Utf8.decode s pos).2 ∧ pos + (Utf8.decode s pos).2 ≤ s.size ∧ ∀ j, j < (Utf8.decode s pos).2 → 128 ≤ (s.get! (pos + j)).toNat := by
  simp only [Utf8.decode, Nat.add_zero]
  have hn : ¬ (s.get! pos).toNat < 128 := by omega
  rw [if_neg hn]
  have hz : ∀ j, j = 0 → 128 ≤ (s.get! (pos + j)).toNat := fun j e => by rw [e]; exact hb
  have one : pos + 1 ≤ s.size ∧ ∀ j, j < 1 → 128 ≤ (s.get! (pos + j)).toNat := ⟨by omega, fun j hj => hz j (by omega)⟩
  split
  · rename_i h1
    simp at h1
    split
    · refine ⟨by assumption, by simp, by simp; omega, fun j hj => ?_⟩
      have hj : j < 2 := hj
      have : j = 0 ∨ j = 1 := by omega
      rcases this with e | rfl
      · exact hz j e
      · omega
    · exact ⟨by simp [Utf8.runeError], by simp, one⟩
  · split
    · rename_i h1
      simp at h1
      split
      · rename_i h2
        simp at h2
        refine ⟨by simp only []; omega, by simp, by simp; omega, fun j hj => ?_⟩
        have hj : j < 3 := hj
        have : j = 0 ∨ j = 1 ∨ j = 2 := by omega
        rcases this with e | rfl | rfl
        · exact hz j e
        · omega
        · omega
      · exact ⟨by simp [Utf8.runeError], by simp, one⟩
    · split
      · rename_i h1
        simp at h1
        split
        · rename_i h2
          simp at h2
          refine ⟨by simp only []; omega, by simp, by simp; omega, fun j hj => ?_⟩
          have hj : j < 4 := hj
          have : j = 0 ∨ j = 1 ∨ j = 2 ∨ j = 3 := by omega
          rcases this with e | rfl | rfl | rfl
          · exact hz j e
          · omega
          · omega
          · omega
        · exact ⟨by simp [Utf8.runeError], by simp, one⟩
      · exact ⟨by simp [Utf8.runeError], by simp, one⟩
set_option maxRecDepth 100000 in
set_option maxHeartbeats 4000000 in
theorem indexRune_far' (S : ByteArray) (r : Int) (w : World) (h2S : 2 ≤ S.size) (hSz : Hid (S.size = 2)) (h9 : (S[1].toNat : Int) < 128) (h0 : 128 ≤ r) (h1 : r ≤ 1114111) (hne : r ≠ 65533) :
    Calls Tryd.prog 85 #[.string S, .int .i32 r] w fun e w' => e = .returned (.int .i64 (-1)) ∧ Below w.heap.size w w' := by
  have hv := fun w => validRune_any r w (by omega) h1
  have g0 : (0 : Int) ≤ r := by omega
  have g1 : decide (r < 128) = false := by simp; omega
  have g2 : (r == 65533) = false := by simpa using hne
  cases hva : Utf8.valid r
  · rw [hva] at hv
    have hv' : Hid (∀ w, Calls Tryd.prog 93 #[.int .i32 r] w fun e w' => e = .returned (.bool false) ∧ w' = w) := hv
    clear hv hva
    go_enter Tryd.func85, Tryd.ntmps85
    go_wp2_with (go_at_call 93; refine (hv'.out _).mono ?_; rintro e w' ⟨rfl, rfl⟩)
    go_ret
    exact ⟨rfl, Below.refl _ _⟩
  · rw [hva] at hv
    have hv' : Hid (∀ w, Calls Tryd.prog 93 #[.int .i32 r] w fun e w' => e = .returned (.bool true) ∧ w' = w) := hv
    obtain ⟨e1, e2, e3⟩ := encode_facts r hva h0
    have hcv := fun w => run_convert_int_string (P := Tryd.prog) w 21 9 .i32 r (by rw [Tryd.underlying21]; rfl) Tryd.underlying9
    revert e1 e2 e3 hcv
    generalize Utf8.encode r = R
    intro e1 e2 e3 hcv
    clear hv hva
    by_cases h2 : R.size = 2
    · have e3' := e3 (by omega)
      have hx : R[R.size - 1]'(by omega) = R[1]'(by omega) := by congr 1; omega
      rw [hx] at e3'
      obtain ⟨d, hd⟩ : ∃ d, R[1] = d := ⟨_, rfl⟩
      rw [hd] at e3'
      obtain ⟨c, hc⟩ : ∃ c, S[1] = c := ⟨_, rfl⟩
      rw [hc] at h9
      have b9 : ((c.toNat : Int) != (d.toNat : Int)) = true := by simp; omega
      have hz : (R.size : Int) = 2 := by omega
      have i1 : (1 : Int) < (S.size : Int) := by omega
      have i2 : (2 : Int) ≤ (S.size : Int) := by omega
      have hE0 : (S.extract 2 S.size).data.toList = [] := by
        rw [Lib.extract_eq, List.drop_of_length_le (by rw [size_list]; exact Nat.le_of_eq hSz.out), List.take_nil]
      obtain ⟨E, hE⟩ : ∃ E, S.extract 2 S.size = E := ⟨_, rfl⟩
      rw [hE] at hE0
      have hib := fun w => indexByte_any E d w
      rw [hE0] at hib
      have hib' : Hid (∀ w, Calls Tryd.prog 92 #[.string E, .int .u8 d.toNat] w fun e w' => e = .returned (.int .i64 (-1)) ∧ w' = w) := hib
      clear hib hE0
      go_enter Tryd.func85, Tryd.ntmps85
      go_wp2_with (go_at_call 93; refine (hv'.out _).mono ?_; rintro e w' ⟨rfl, rfl⟩)
      go_step3
      go_wp2_with fail
      go_loop [9] (fun i => i = .int .i64 1) (fun _ => 0)
      case atStart => rfl
      case round =>
        subst hrel
        have hw2 : IntKind.i64.wrap 2 = 2 := by decide
        go_wp2_with fail
        go_step3
        go_wp2_with fail
        go_quiet (fail)
        go_wp2_with fail
        have hBq := below_drewN (Below.refl w'.heap.size w') nq
        revert hBq
        generalize World.drewN _ nq = W
        intro hBq
        go_quiet (first | (go_at_call 92; exact Calls.quiet_of_same (hib'.out _)))
        go_wp2_with fail
        rw [Exit.noGoto_ret]
        simp only [Exit.inBlock]
        simp +zetaDelta only [Exit.noGoto_ret, Exit.inBlock, Exit.then]
        go_ret
        exact ⟨rfl, below_drewN hBq _⟩
    · obtain ⟨q, hq⟩ : ∃ q : Nat, R.size = q + 3 := ⟨R.size - 3, by omega⟩
      have hz : (R.size : Int) = (q : Int) + 3 := by omega
      have hq1 : q ≤ 1 := by omega
      have i2 : ¬ ((q : Int) + 2 < (S.size : Int)) := by have := hSz.out; omega
      go_enter Tryd.func85, Tryd.ntmps85
      go_wp2_with (go_at_call 93; refine (hv'.out _).mono ?_; rintro e w' ⟨rfl, rfl⟩)
      go_step3
      go_wp2_with fail
      go_loop [9] (fun i => i = .int .i64 ((q : Int) + 2)) (fun _ => 0)
      case atStart => go_num
      case round =>
        subst hrel
        go_wp2_with fail
        go_ret
        exact ⟨rfl, Below.refl _ _⟩
theorem indexRune_far (r : Int) (w : World) (h0 : 128 ≤ r) (h1 : r ≤ 1114111) :
    Calls Tryd.prog 85 #[.string blS, .int .i32 r] w fun e w' => e = .returned (.int .i64 (-1)) ∧ Below w.heap.size w w' := by
  by_cases hne : r = 65533
  · rw [hne]; exact indexRune_err w
  · exact indexRune_far' blS r w (by decide) (by show _ = _; rfl) (by decide) h0 h1 hne
/-- The blanks' place. -/
theorem noAny_jump {s : ByteArray} {i n : Nat} (h : Lib.NoAny s.data.toList [32, 9] i) (hb : ∀ j, j < n → 128 ≤ (s.get! (i + j)).toNat) : Lib.NoAny s.data.toList [32, 9] (i + n) := by
  intro j b hj hjb
  by_cases hji : j < i
  · exact h j b hji hjb
  · have hjl : j < s.size := by have := (List.getElem?_eq_some_iff.1 hjb).1; rwa [size_list] at this
    have := hb (j - i) (by omega)
    rw [show i + (j - i) = j by omega] at this
    have e : s.get! j = b := by
      have h1 := get_list s j hjl
      rw [h1] at hjb
      have h2 : s.get! j = s[j] := by simp [ByteArray.get!, getElem!_pos, hjl]; rfl
      rw [h2]; exact Option.some.inj hjb
    rw [e] at this
    have n1 : b ≠ 32 := fun e => by rw [e] at this; simp at this
    have n2 : b ≠ 9 := fun e => by rw [e] at this; simp at this
    simp [n1, n2]
theorem bat_index (l : L) : Lib.indexAny l [32, 9] = if bat l = l.length then -1 else (bat l : Int) := by
  induction l with
  | nil => rfl
  | cons c r ih =>
    rw [Lib.indexAny]
    cases h : [32, 9].contains c
    · have hb : bat (c :: r) = bat r + 1 := by unfold bat; rw [List.takeWhile_cons, show (!bl c) = true by unfold bl; rw [h]; rfl]; rfl
      have := bat_le r
      rw [hb, ih, List.length_cons]
      by_cases hq : bat r = r.length
      · simp [hq]
      · rw [if_neg hq]
        have : ((bat r : Int) == -1) = false := by simp
        rw [this]
        simp [hq]
    · have hb : bat (c :: r) = 0 := by unfold bat; rw [List.takeWhile_cons, show (!bl c) = false by unfold bl; rw [h]; rfl]; rfl
      rw [hb]
      simp
end Go.Proofs.YtmoafagemdnifaaDoor
