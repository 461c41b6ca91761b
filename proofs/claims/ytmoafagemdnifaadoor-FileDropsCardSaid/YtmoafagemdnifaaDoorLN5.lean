/- Plain mathematics: a long line, which goes on. -/
import Derived.Test.YtmoafagemdnifaaDoorLN4
namespace Go.Proofs.YtmoafagemdnifaaDoor.Lin
theorem trimR_keep (a y : L) (c : UInt8) (hc : bl c = false) : trimR (a ++ c :: y) = a ++ c :: trimR y := by
  unfold trimR Lib.trimRightS
  have e : (a ++ c :: y).reverse = y.reverse ++ (c :: a.reverse) := by simp
  have hn : [32, 9].contains c = false := hc
  rw [e, List.dropWhile_append]
  split
  · rename_i h
    have h0 : y.reverse.dropWhile (fun x => [32, 9].contains x) = [] := by simpa using h
    rw [List.dropWhile_cons, if_neg (by rw [hn]; simp), h0]
    simp
  · simp
theorem prs_k (y : L) : ∃ v, prs (107 :: 61 :: y) = some (2, [107], v) := by
  have e1 : trim (107 :: 61 :: y) = 107 :: 61 :: trimR y := by
    have h1 : trim (107 :: 61 :: y) = trimL (trimR ([107] ++ 61 :: y)) := rfl
    rw [h1, trimR_keep [107] y 61 (by decide)]
    exact trimL_word 107 _ (by decide)
  have e2 : secN (107 :: 61 :: trimR y) = none := by
    unfold secN
    rw [show Lib.hasPrefix (107 :: 61 :: trimR y) [91] = false from rfl]
    rfl
  have e3 : Lib.cut (107 :: 61 :: trimR y) [61] = ([107], trimR y, true) := cut_split (a := [107]) (by decide)
  refine ⟨trimL (trimR y), ?_⟩
  unfold prs
  rw [e1, e2]
  simp only [e3]
  rfl
/-- Parts that go on. -/
def parts (q : Nat) : Nat → L
  | 0 => []
  | i + 1 => List.replicate q 118 ++ [92, 10] ++ parts q i
theorem parts_snoc (q : Nat) : ∀ i, parts q (i + 1) = parts q i ++ (List.replicate q 118 ++ [92, 10])
  | 0 => by simp [parts]
  | i + 1 => by
    have := parts_snoc q i
    have e : parts q (i + 1 + 1) = List.replicate q 118 ++ [92, 10] ++ parts q (i + 1) := rfl
    have e2 : parts q (i + 1) = List.replicate q 118 ++ [92, 10] ++ parts q i := rfl
    rw [e, this]
    simp only [← List.append_assoc]
    rw [← e2, this]
    simp
theorem parts_len (q : Nat) : ∀ i, (parts q i).length = i * (q + 2)
  | 0 => by simp [parts]
  | i + 1 => by simp only [parts, List.length_append, List.length_replicate, List.length_cons, List.length_nil, parts_len q i, Nat.add_mul]; omega
/-- What such parts are. -/
def joined (q : Nat) : Nat → L
  | 0 => []
  | i + 1 => List.replicate q 118 ++ [32] ++ joined q i
theorem joined_len (q : Nat) : ∀ i, (joined q i).length = i * (q + 1)
  | 0 => by simp [joined]
  | i + 1 => by simp only [joined, List.length_append, List.length_replicate, List.length_cons, List.length_nil, joined_len q i, Nat.add_mul]; omega
theorem rep_no (q : Nat) : ∀ x ∈ List.replicate q (118 : UInt8) ++ [92], x ≠ 10 := by
  intro x hx
  rcases List.mem_append.1 hx with h | h
  · rw [List.eq_of_mem_replicate h]; decide
  · have : x = 92 := by simpa using h
    rw [this]; decide
theorem suf92 (a : L) : Lib.hasSuffix (a ++ [92]) [92] = true := by
  unfold Lib.hasSuffix
  rw [List.isSuffixOf_iff_suffix]
  exact ⟨a, rfl⟩
theorem trim92 (a : L) : Lib.trimSuffix (a ++ [92]) [92] = a := by
  unfold Lib.trimSuffix
  rw [if_pos (suf92 a)]
  simp
theorem rep_suf (q : Nat) : Lib.hasSuffix (List.replicate q (118 : UInt8)) [92] = false := by
  rw [← Bool.not_eq_true]
  intro h
  unfold Lib.hasSuffix at h
  rw [List.isSuffixOf_iff_suffix] at h
  obtain ⟨t, ht⟩ := h
  have : (92 : UInt8) ∈ List.replicate q (118 : UInt8) := by rw [← ht]; simp
  exact absurd (List.eq_of_mem_replicate this) (by decide)
/-- Lines that go on, with the last one behind them. -/
theorem whl_parts (q b : Nat) (hb : b ≠ 0) : ∀ (i : Nat) (x : L) (n : Nat), ∃ n', whl n b x (pieces (parts q i ++ (List.replicate q 118 ++ [10]))) = [(b, x ++ joined q i ++ List.replicate q 118)] ∧ n ≤ n'
  | 0, x, n => by
    have hp : pieces (parts q 0 ++ (List.replicate q 118 ++ [10])) = [List.replicate q 118, []] := by
      show pieces (List.replicate q 118 ++ 10 :: []) = _
      rw [pieces_split _ _ (fun y hy => by rw [List.eq_of_mem_replicate hy]; decide)]
      rfl
    refine ⟨n, ?_, Nat.le_refl _⟩
    rw [hp, whl_end n b x _ _ hb (rep_suf q), whl_out (n + 1) [] [] [] rfl]
    simp [whl, joined]
  | i + 1, x, n => by
    have hp : pieces (parts q (i + 1) ++ (List.replicate q 118 ++ [10])) = (List.replicate q 118 ++ [92]) :: pieces (parts q i ++ (List.replicate q 118 ++ [10])) := by
      have e : parts q (i + 1) ++ (List.replicate q 118 ++ [10]) = (List.replicate q 118 ++ [92]) ++ 10 :: (parts q i ++ (List.replicate q 118 ++ [10])) := by simp [parts]
      rw [e, pieces_split _ _ (rep_no q)]
    obtain ⟨n', h1, h2⟩ := whl_parts q b hb i (x ++ List.replicate q 118 ++ [32]) (n + 1)
    refine ⟨n', ?_, by omega⟩
    rw [hp, whl_on n b x _ _ hb (suf92 _), trim92, h1]
    simp [joined]
theorem lns_long (q i : Nat) (hq : 6 + i * (q + 2) + q + 1 ≤ 4000) : ∃ l, lns ([91, 65, 93, 10, 107, 61] ++ (parts q i ++ (List.replicate q 118 ++ [10]))) = if 400 < 2 + i * (q + 1) + q then .error (2, 51) else .ok l := by
  have hlen : ([91, 65, 93, 10, 107, 61] ++ (parts q i ++ (List.replicate q (118 : UInt8) ++ [10]))).length ≤ 4000 := by
    simp only [List.length_append, List.length_cons, List.length_nil, parts_len, List.length_replicate]; omega
  have e0 : ([91, 65, 93, 10, 107, 61] ++ (parts q i ++ (List.replicate q (118 : UInt8) ++ [10])) : L) = [91, 65, 93] ++ 10 :: ([107, 61] ++ (parts q i ++ (List.replicate q 118 ++ [10]))) := by simp
  -- the second line and all that it goes on with
  have hw : ∃ y, y.length = i * (q + 1) + q ∧ whl 1 0 [] (pieces ([107, 61] ++ (parts q i ++ (List.replicate q (118 : UInt8) ++ [10])))) = [(2, [107, 61] ++ y)] := by
    cases i with
    | zero =>
      refine ⟨List.replicate q 118, by simp, ?_⟩
      have hp : pieces ([107, 61] ++ (parts q 0 ++ (List.replicate q 118 ++ [10]))) = [[107, 61] ++ List.replicate q 118, []] := by
        show pieces (([107, 61] ++ List.replicate q 118) ++ 10 :: []) = _
        rw [pieces_split _ _ (fun y hy => by
          rcases List.mem_append.1 hy with h | h
          · clear hy; revert h; revert y; decide
          · rw [List.eq_of_mem_replicate h]; decide)]
        rfl
      have hs : Lib.hasSuffix ([107, 61] ++ List.replicate q (118 : UInt8)) [92] = false := by
        rw [← Bool.not_eq_true]
        intro h
        unfold Lib.hasSuffix at h
        rw [List.isSuffixOf_iff_suffix] at h
        obtain ⟨t, ht⟩ := h
        have : (92 : UInt8) ∈ [107, 61] ++ List.replicate q (118 : UInt8) := by rw [← ht]; simp
        rcases List.mem_append.1 this with h | h
        · revert h; decide
        · exact absurd (List.eq_of_mem_replicate h) (by decide)
      have hl : lout ([107, 61] ++ List.replicate q 118) = false := by
        unfold lout
        rw [show ([107, 61] ++ List.replicate q 118 : L) = 107 :: (61 :: List.replicate q 118) from rfl, trimL_word _ _ (by decide)]
        rfl
      rw [hp, whl_end0 1 [] _ _ hl hs, whl_out 2 [] [] [] rfl]
      simp [whl]
    | succ i =>
      have hp : pieces ([107, 61] ++ (parts q (i + 1) ++ (List.replicate q 118 ++ [10]))) = ([107, 61] ++ List.replicate q 118 ++ [92]) :: pieces (parts q i ++ (List.replicate q 118 ++ [10])) := by
        have e : [107, 61] ++ (parts q (i + 1) ++ (List.replicate q 118 ++ [10])) = ([107, 61] ++ List.replicate q 118 ++ [92]) ++ 10 :: (parts q i ++ (List.replicate q 118 ++ [10])) := by simp [parts]
        rw [e, pieces_split _ _ (fun y hy => by
          rw [List.append_assoc] at hy
          rcases List.mem_append.1 hy with h | h
          · clear hy; revert h; revert y; decide
          · exact rep_no q y h)]
      have hl : lout ([107, 61] ++ List.replicate q 118 ++ [92]) = false := by
        unfold lout
        rw [show ([107, 61] ++ List.replicate q 118 ++ [92] : L) = 107 :: (61 :: (List.replicate q 118 ++ [92])) from rfl, trimL_word _ _ (by decide)]
        rfl
      obtain ⟨_, h1, _⟩ := whl_parts q 2 (by decide) i ([107, 61] ++ List.replicate q 118 ++ [32]) 2
      refine ⟨List.replicate q 118 ++ [32] ++ joined q i ++ List.replicate q 118, ?_, ?_⟩
      · simp only [List.length_append, List.length_replicate, List.length_cons, List.length_nil, joined_len, Nat.add_mul]; omega
      · rw [hp, whl_on0 1 [] _ _ hl (suf92 _), trim92, List.nil_append, h1]
        simp
  obtain ⟨y, hy, hw⟩ := hw
  obtain ⟨v, hv⟩ := prs_k y
  refine ⟨[(1, [65], [], 1), (2, [107], v, 2)], ?_⟩
  unfold lns
  rw [if_neg (by omega), e0, pieces_split _ _ (by decide), whl_end0 0 [] [91, 65, 93] _ (by decide) (by decide), hw]
  have p1 : prs [91, 65, 93] = some (1, [65], []) := by decide +kernel
  have hyl : ([107, 61] ++ y).length = 2 + i * (q + 1) + q := by simp only [List.length_append, List.length_cons, List.length_nil, hy]; omega
  have hv' : prs ([107, 61] ++ y) = some (2, [107], v) := hv
  by_cases hlg : 400 < 2 + i * (q + 1) + q
  · rw [if_pos hlg]
    simp only [lnsW, List.nil_append, p1, hyl, if_pos hlg]
    rfl
  · rw [if_neg hlg]
    simp only [lnsW, List.nil_append, p1, hyl, if_neg hlg, hv']
    rfl
end Go.Proofs.YtmoafagemdnifaaDoor.Lin
