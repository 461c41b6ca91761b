/- Plain mathematics: lines with notes, blanks and continued lines between; their numbers. -/
import Derived.Test.YtmoafagemdnifaaDoorLN8
import Derived.Test.YtmoafagemdnifaaDoorR4
namespace Go.Proofs.YtmoafagemdnifaaDoor.Lin
def dg (n : Nat) : L := if n < 10 then [UInt8.ofNat (48 + n)] else [UInt8.ofNat (48 + n / 10), UInt8.ofNat (48 + n % 10)]
theorem dg_one {u : Nat} (h : u < 10) : dg u = [UInt8.ofNat (48 + u % 10)] := by unfold dg; rw [if_pos h, Nat.mod_eq_of_lt h]
theorem dg_step {u : Nat} (h : ¬ u < 10) (h2 : u ≤ 40) : dg u = dg (u / 10) ++ [UInt8.ofNat (48 + u % 10)] := by
  rw [dg_one (u := u / 10) (by omega)]
  unfold dg
  rw [if_neg h, Nat.mod_eq_of_lt (a := u / 10) (by omega)]; rfl
theorem dg_len (n : Nat) : (dg n).length ≤ 2 := by unfold dg; split <;> simp
theorem dg_al (n : Nat) (h : n ≤ 40) : ∀ c ∈ dg n, al c = true := by
  have : ∀ m : Fin 41, ∀ c ∈ dg m.val, al c = true := by decide
  exact this ⟨n, by omega⟩
/-- What stands ahead of a setting, and behind it. -/
def gpre (g : Nat) : L := if g = 1 then [35, 32, 110, 111, 116, 101, 10] else if g = 2 then [32, 9, 10, 59, 10] else []
def gN (g : Nat) : Nat := if g = 1 then 1 else if g = 2 then 2 else 0
def gpost (g : Nat) : L := if g = 3 then [32, 92, 10, 32, 98] else []
def gC (g : Nat) : Nat := if g = 3 then 1 else 0
def gval (g : Nat) : L := if g = 3 then [97, 32, 32, 32, 98] else [97]
def blk (g : Nat) (d : L) : L := gpre g ++ (107 :: (d ++ [61, 97] ++ gpost g ++ [10]))
theorem blk_len (g : Nat) (d : L) (h : d.length ≤ 2) : (blk g d).length ≤ 18 := by
  unfold blk gpre gpost
  split <;> (try split) <;> (try split) <;> simp <;> omega
theorem al_facts {c : UInt8} (h : al c = true) : c ≠ 10 ∧ c ≠ 61 ∧ c ≠ 92 ∧ bl c = false := by
  refine ⟨?_, ?_, ?_, (bl_no c).2 ⟨?_, ?_⟩⟩ <;> (rintro rfl; revert h; decide)
theorem trim_id {x : L} (h1 : ∀ c r, x = c :: r → bl c = false) (h2 : ∀ a c, x = a ++ [c] → bl c = false) : trim x = x := by
  rw [trim_def, trimR_id h2]
  cases x with
  | nil => rfl
  | cons c r => exact trimL_word c r (h1 c r rfl)
theorem prs_kv {d v : L} (hd : ∀ c ∈ d, al c = true) (hv : ∀ a c, v = a ++ [c] → bl c = false) (hv1 : ∀ c r, v = c :: r → bl c = false) (hne : v ≠ []) : prs (107 :: (d ++ 61 :: v)) = some (2, 107 :: d, v) := by
  have hk : ∀ c ∈ (107 :: d : L), al c = true := fun c hc => by
    rcases List.mem_cons.1 hc with rfl | h
    · decide
    · exact hd c h
  have ht : trim (107 :: (d ++ 61 :: v)) = 107 :: (d ++ 61 :: v) := by
    refine trim_id (fun c r e => by cases e; decide) (fun a c e => ?_)
    rcases List.eq_nil_or_concat v with rfl | ⟨b, e', rfl⟩
    · exact absurd rfl hne
    · have h3 : a ++ [c] = (107 :: (d ++ 61 :: b)) ++ [e'] := by rw [← e]; simp
      have := (List.append_inj' h3 rfl).2
      have hce : c = e' := by simpa using this
      rw [hce]
      exact hv b e' (by simp)
  have hb : brk (trim (107 :: (d ++ 61 :: v))) = false := by
    rw [ht]
    exact brk_no (.inr (.inl (by simp)))
  rw [prs_eq hb (a := 107 :: d) (b := v) (by rw [ht]; simp) (fun x hx => (al_facts (hk x hx)).2.1)]
  have e1 : trim (107 :: d) = 107 :: d := trim_id (fun c r e => by cases e; decide) (fun a c e => (al_facts (hk c (by rw [e]; simp))).2.2.2)
  have e2 : trim v = v := trim_id hv1 hv
  have e3 : made al (107 :: d) = true := by
    unfold made
    rw [List.all_eq_true.2 hk]; rfl
  rw [e1, e2, e3]; rfl
def gtxt (g : Nat) (d : L) : L := 107 :: (d ++ 61 :: gval g)
theorem gtxt_prs (g : Nat) (d : L) (hd : ∀ c ∈ d, al c = true) : prs (gtxt g d) = some (2, 107 :: d, gval g) := by
  refine prs_kv hd (fun a c h => ?_) (fun c r h => ?_) ?_
  · unfold gval at h
    split at h
    · have h3 : a ++ [c] = [97, 32, 32, 32] ++ [98] := h.symm
      have := (List.append_inj' h3 rfl).2
      have : c = 98 := by simpa using this
      rw [this]; decide
    · have h3 : a ++ [c] = [] ++ [97] := h.symm
      have := (List.append_inj' h3 rfl).2
      have : c = 97 := by simpa using this
      rw [this]; decide
  · unfold gval at h
    split at h <;> (cases h; decide)
  · unfold gval; split <;> simp
/-- One setting, with what stands around it. -/
theorem whl_blk (n g : Nat) (d T : L) (hd : ∀ c ∈ d, al c = true) : whl n 0 [] (pieces (blk g d ++ T)) = (n + gN g + 1, gtxt g d) :: whl (n + gN g + 1 + gC g) 0 [] (pieces T) := by
  have n10 : ∀ (y : L), (∀ c ∈ y, c ≠ 10) → ∀ c ∈ (107 :: (d ++ [61, 97] ++ y) : L), c ≠ 10 := fun y hy c hc => by
    rcases List.mem_cons.1 hc with rfl | h
    · decide
    · rcases List.mem_append.1 h with h | h
      · rcases List.mem_append.1 h with h | h
        · exact (al_facts (hd c h)).1
        · simp at h; rcases h with rfl | rfl <;> decide
      · exact hy c h
  have hlo : ∀ y : L, lout (107 :: y) = false := fun y => by
    unfold lout
    rw [trimL_word _ _ (by decide)]; rfl
  have suf97 : ∀ (a : L), Lib.hasSuffix (a ++ [97]) [92] = false := fun a => by
    rw [← Bool.not_eq_true, suf_iff]; simp
  have core : ∀ m, whl m 0 [] (pieces (107 :: (d ++ [61, 97] ++ gpost g ++ [10]) ++ T)) = (m + 1, gtxt g d) :: whl (m + 1 + gC g) 0 [] (pieces T) := by
    intro m
    by_cases h3 : g = 3
    · subst h3
      have e0 : (107 :: (d ++ [61, 97] ++ gpost 3 ++ [10]) ++ T : L) = (107 :: (d ++ [61, 97] ++ [32, 92])) ++ 10 :: ([32, 98] ++ 10 :: T) := by simp [gpost]
      have e1 : (107 :: (d ++ [61, 97] ++ [32, 92]) : L) = (107 :: (d ++ [61, 97] ++ [32])) ++ [92] := by simp
      rw [e0, pieces_split _ _ (n10 [32, 92] (by decide)), pieces_split _ _ (by decide)]
      have hl1 : lout ((107 :: (d ++ [61, 97] ++ [32])) ++ [92]) = false := hlo _
      rw [e1, whl_on0 m [] _ _ hl1 (suf92 _), trim92, whl_end (m + 1) (m + 1) _ _ _ (by omega) (by decide)]
      simp [gtxt, gval, gC]
    · have e0 : (107 :: (d ++ [61, 97] ++ gpost g ++ [10]) ++ T : L) = (107 :: (d ++ [61, 97] ++ [])) ++ 10 :: T := by simp [gpost, h3]
      have e1 : (107 :: (d ++ [61, 97] ++ []) : L) = (107 :: (d ++ [61])) ++ [97] := by simp
      rw [e0, pieces_split _ _ (n10 [] (by simp)), whl_end0 m [] _ _ (hlo _) (by rw [e1]; exact suf97 _)]
      simp [gtxt, gval, gC, h3]
  unfold blk
  by_cases h1 : g = 1
  · have e0 : (gpre g ++ (107 :: (d ++ [61, 97] ++ gpost g ++ [10])) ++ T : L) = [35, 32, 110, 111, 116, 101] ++ 10 :: ((107 :: (d ++ [61, 97] ++ gpost g ++ [10])) ++ T) := by simp [gpre, h1]
    rw [e0, pieces_split _ _ (by decide), whl_out _ _ _ _ (by decide), core]
    simp [gN, h1]
  · by_cases h2 : g = 2
    · have e0 : (gpre g ++ (107 :: (d ++ [61, 97] ++ gpost g ++ [10])) ++ T : L) = [32, 9] ++ 10 :: ([59] ++ 10 :: ((107 :: (d ++ [61, 97] ++ gpost g ++ [10])) ++ T)) := by simp [gpre, h2]
      rw [e0, pieces_split _ _ (by decide), pieces_split _ _ (by decide), whl_out _ _ _ _ (by decide), whl_out _ _ _ _ (by decide), core]
      simp [gN, h2]
    · have e0 : (gpre g ++ (107 :: (d ++ [61, 97] ++ gpost g ++ [10])) ++ T : L) = (107 :: (d ++ [61, 97] ++ gpost g ++ [10])) ++ T := by simp [gpre, h1, h2]
      rw [e0, core]
      simp [gN, h1, h2]
variable (gv : Nat → Nat)
/-- The line where block i begins. -/
def aw : Nat → Nat
  | 0 => 2
  | i + 1 => aw i + gN (gv i) + 1 + gC (gv i)
theorem aw_pos : ∀ i, 2 ≤ aw gv i
  | 0 => Nat.le_refl _
  | i + 1 => by have := aw_pos i; simp only [aw]; omega
theorem aw_le : ∀ i, aw gv i ≤ 2 + 4 * i
  | 0 => by simp [aw]
  | i + 1 => by
    have := aw_le i
    have h1 : gN (gv i) ≤ 2 := by unfold gN; split <;> (try split) <;> omega
    have h2 : gC (gv i) ≤ 1 := by unfold gC; split <;> omega
    simp only [aw]; omega
def ent (i : Nat) : Ln := (2, 107 :: dg i, gval (gv i), aw gv i + gN (gv i))
def txt (i m : Nat) : L := (List.range' i m).flatMap fun j => blk (gv j) (dg j)
theorem txt_snoc (k : Nat) : txt gv 0 (k + 1) = txt gv 0 k ++ blk (gv k) (dg k) := by unfold txt; rw [List.range'_concat]; simp
theorem txt_len : ∀ k, (txt gv 0 k).length ≤ 18 * k
  | 0 => by simp [txt]
  | k + 1 => by
    have := txt_len k
    have h2 := blk_len (gv k) (dg k) (dg_len k)
    rw [txt_snoc, List.length_append]; omega
theorem lns_txt : ∀ (m i : Nat), i + m ≤ 40 → lnsW (whl (aw gv i - 1) 0 [] (pieces (txt gv i m))) = .ok ((List.range' i m).map (ent gv))
  | 0, i, _ => by
    have : pieces (txt gv i 0) = [[]] := rfl
    rw [this, whl_out _ _ _ _ (by decide)]
    simp [whl, lnsW]
  | m + 1, i, h => by
    have ih := lns_txt m (i + 1) (by omega)
    have e : txt gv i (m + 1) = blk (gv i) (dg i) ++ txt gv (i + 1) m := by unfold txt; rw [List.range'_succ]; rfl
    have hp := aw_pos gv i
    have e2 : aw gv i - 1 + gN (gv i) + 1 + gC (gv i) = aw gv (i + 1) - 1 := by simp only [aw]; omega
    have e3 : aw gv i - 1 + gN (gv i) + 1 = aw gv i + gN (gv i) := by omega
    have hl : ¬ 400 < (gtxt (gv i) (dg i)).length := by
      have := dg_len i
      unfold gtxt gval
      split <;> simp <;> omega
    rw [e, whl_blk _ _ _ _ (dg_al i (by omega)), e2, e3]
    simp only [lnsW, if_neg hl, gtxt_prs _ _ (dg_al i (by omega)), ih]
    rw [List.range'_succ]; rfl
theorem lns_numbers (n : Nat) (h : n ≤ 40) : lns ([91, 65, 93, 10] ++ txt gv 0 n) = .ok ((1, [65], [], 1) :: (List.range' 0 n).map (ent gv)) := by
  have hl := txt_len gv n
  have e0 : ([91, 65, 93, 10] ++ txt gv 0 n : L) = [91, 65, 93] ++ 10 :: txt gv 0 n := by simp
  have p1 : prs [91, 65, 93] = some (1, [65], []) := by decide +kernel
  unfold lns
  rw [if_neg (by simp; omega), e0, pieces_split _ _ (by decide), whl_end0 0 [] [91, 65, 93] _ (by decide) (by decide)]
  have := lns_txt gv n 0 (by omega)
  have e1 : aw gv 0 - 1 = 1 := rfl
  rw [e1] at this
  simp only [lnsW, List.nil_append, p1, this]
  rfl
end Go.Proofs.YtmoafagemdnifaaDoor.Lin
