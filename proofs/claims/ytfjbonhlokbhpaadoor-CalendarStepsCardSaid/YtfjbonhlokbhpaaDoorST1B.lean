/- CalendarSteps: the text that it makes, and what it is. -/
import Derived.Test.YtfjbonhlokbhpaaDoorZJ
import Derived.Test.YtfjbonhlokbhpaaDoorZK
import Derived.Test.YtfjbonhlokbhpaaDoorZI
namespace Go.Proofs.YtfjbonhlokbhpaaDoor
def dk (k : Nat) : List UInt8 := if k < 10 then [UInt8.ofNat (48 + k)] else Civ.d2 k
def stP (a k : Nat) : List Part := [(false, (a : Int), 59, (k : Int))]
def tSt (a k : Nat) : List UInt8 := Civ.d2 a ++ 47 :: dk k
theorem st_tab : ((List.range 60).all fun a => (List.range 59).all fun k => eqP (pNs ⟨(tSt a (k + 1)).toArray⟩ 0 59) (some (stP a (k + 1))) && isFB (stP a (k + 1)) 0 59) = true := by kernel_rfl
theorem star23 : pNs ⟨#[42]⟩ 0 23 = some [(true, 0, 0, 0)] := by kernel_rfl
open Go.RowKit
theorem st_all (a k : Nat) (ha : a < 60) (hk : 1 ≤ k) (hk2 : k < 60) : pNs ⟨(tSt a k).toArray⟩ 0 59 = some (stP a k) ∧ isFB (stP a k) 0 59 = true := by
  have h1 := List.all_eq_true.1 (List.all_eq_true.1 st_tab a (List.mem_range.2 ha)) (k - 1) (List.mem_range.2 (by omega))
  rw [show k - 1 + 1 = k by omega, Bool.and_eq_true] at h1
  exact ⟨eqP_eq h1.1, h1.2⟩
theorem dec_dk (k : Nat) (h : k < 100) : Lib.decDigits k = dk k := by
  unfold dk
  split
  · rename_i h1; rw [Lib.decDigits_one h1]
  · exact Civ.dec_d2 (by omega) h
theorem dk_len (k : Nat) : (dk k).length = 1 ∨ (dk k).length = 2 := by
  unfold dk; split
  · exact .inl rfl
  · exact .inr rfl
theorem dk_no (k : Nat) (c : UInt8) (h : k < 100) (hc : c < 48 ∨ 57 < c) : c ∉ dk k := by
  unfold dk
  split
  · rename_i h1
    have := d2_no k c h hc
    intro hm
    refine this ?_
    unfold Civ.d2
    rw [show k % 10 = k by omega]
    simp only [List.mem_cons, List.not_mem_nil, or_false] at hm ⊢
    exact .inr hm
  · exact d2_no k c h hc
def sS (a k : Nat) : List UInt8 := [42] ++ 58 :: tSt a k
theorem sS_no (a k : Nat) (ha : a < 100) (hk : k < 100) (z : UInt8) (hz : z < 48 ∨ 57 < z) (h42 : z ≠ 42) (h58 : z ≠ 58) (h47 : z ≠ 47) : z ∉ sS a k := by
  unfold sS tSt
  simp only [List.mem_append, List.mem_cons, List.not_mem_nil, or_false, not_or]
  exact ⟨h42, h58, d2_no a z ha hz, h47, dk_no k z hk hz⟩
def xS (a k : Nat) : Cal.C7 := ⟨[], [(true, 0, 0, 0)], [(true, 0, 0, 0)], [(true, 0, 0, 0)], [(true, 0, 0, 0)], stP a k, oneP 0⟩
theorem pF_sS (a k : Nat) (ha : a < 60) (hk : 1 ≤ k) (hk2 : k < 60) : pF ⟨(sS a k).toArray⟩ = some (xS a k) := by
  have hl : 6 ≤ (sS a k).length ∧ (sS a k).length ≤ 7 := by
    have := dk_len k
    simp only [sS, tSt, List.length_append, List.length_cons, List.length_nil, Civ.d2_len]
    omega
  have hsz : (⟨(sS a k).toArray⟩ : ByteArray).size = (sS a k).length := by show (sS a k).toArray.size = _; simp
  have no : ∀ z : UInt8, (z < 48 ∨ 57 < z) → z ≠ 42 → z ≠ 58 → z ≠ 47 → z ∉ (⟨(sS a k).toArray⟩ : ByteArray).data.toList := fun z h1 h2 h3 h4 => by rw [mkl]; exact sS_no a k (by omega) (by omega) z h1 h2 h3 h4
  have h1 : splitT ⟨(sS a k).toArray⟩ (str1 32) 3 = [⟨(sS a k).toArray⟩] := splitT_no _ (no _ (by decide) (by decide) (by decide) (by decide))
  have h2 : splitT ⟨(sS a k).toArray⟩ (str1 44) 12 = [⟨(sS a k).toArray⟩] := splitT_no _ (no _ (by decide) (by decide) (by decide) (by decide))
  have h3 : (pWds ⟨(sS a k).toArray⟩).2 = false := wds_len _ (by rw [hsz]; omega) (no _ (by decide) (by decide) (by decide) (by decide))
  have h4 : takeW [⟨(sS a k).toArray⟩] = ([], [⟨(sS a k).toArray⟩]) := by
    simp only [takeW, h2, pL, h3, Bool.false_eq_true, if_false]
  have h5 : takeC 45 D0 [⟨(sS a k).toArray⟩] = (D0, [⟨(sS a k).toArray⟩]) := by
    simp only [takeC, contains_no (no 45 (by decide) (by decide) (by decide) (by decide)), Bool.false_eq_true, if_false]
  have h6 : takeC 58 C0 [⟨(sS a k).toArray⟩] = (⟨(sS a k).toArray⟩, []) := by
    have : Lib.contains (sS a k) [58] = true := contains_yes (x := [42]) (by decide)
    simp only [takeC, this, if_true]
  have h7 : splitT ⟨(sS a k).toArray⟩ (str1 58) 3 = [⟨#[42]⟩, ⟨(tSt a k).toArray⟩] := by
    unfold splitT
    have : min (3 + 1) ((⟨(sS a k).toArray⟩ : ByteArray).size + 1) - 1 = 2 + 1 := by rw [hsz]; omega
    rw [this]
    unfold sS
    rw [splitB_at (x := [42]) _ (by decide), splitB_no _ (by
      rw [mkl]
      unfold tSt
      simp only [List.mem_append, List.mem_cons, not_or]
      exact ⟨d2_no a 58 (by omega) (by decide), by decide, dk_no k 58 (by omega) (by decide)⟩)]
  have h8 : pC ⟨(sS a k).toArray⟩ = some ([(true, 0, 0, 0)], stP a k, oneP 0) := by
    unfold pC
    rw [h7]
    show ((pNs ⟨#[42]⟩ 0 23).bind fun r => (pNs ⟨(tSt a k).toArray⟩ 0 59).bind fun q => (pNs ⟨#[48, 48]⟩ 0 59).map fun p => (r, q, p)) = _
    rw [(st_all a k ha hk hk2).1, star23, show pNs ⟨#[48, 48]⟩ 0 59 = some (oneP 0) from min_all 0 (by decide)]; rfl
  unfold pF
  rw [h1, h4]
  simp only [h5, h6, pD_D0, h8]
  rfl
theorem isB_xS (a k : Nat) (ha : a < 60) (hk : 1 ≤ k) (hk2 : k < 60) : isB (xS a k) = true := by
  unfold isB
  simp only [xS, (st_all a k ha hk hk2).2]
  decide +kernel
theorem mtM_xS (a k m : Nat) (hk : 1 ≤ k) (hm : m < 60) : mtM (xS a k) 2024 5 17 7 m 0 = (decide (a ≤ m) && decide ((m - a) % k = 0)) := by
  have e : mtM (xS a k) 2024 5 17 7 m 0 = Cal.inL (stP a k) m := by
    show (true && (true && (true && (true && (true && (Cal.inL (stP a k) m && true)))))) = _
    simp
  rw [e, Bool.eq_iff_iff]
  simp [Cal.inL, Cal.inP, stP]
  by_cases h : a ≤ m
  · have e2 : ((m : Int) - a) = ((m - a : Nat) : Int) := by omega
    rw [e2]
    have e3 : (((m - a : Nat) : Int) % (k : Int)) = (((m - a) % k : Nat) : Int) := by simp
    rw [e3]
    omega
  · omega
theorem parse_sS (a k : Nat) (ha : a < 60) (hk : 1 ≤ k) (hk2 : k < 60) (w : World) (hg : GlP w) : Calls Tryd.prog 15 #[.string ⟨(sS a k).toArray⟩] w (ParP w (xS a k)) := by
  have hs : (⟨(sS a k).toArray⟩ : ByteArray).data.toList = 42 :: 58 :: tSt a k := by rw [mkl]; rfl
  have hsp := spell_id hs (by decide)
  refine parse_any _ w hg (xS a k) (by rw [hsp]; exact pF_sS a k ha hk hk2) (isB_xS a k ha hk hk2) ?_
  rw [hsp]
  show (sS a k).toArray.size ≤ 100000
  have := dk_len k
  simp only [sS, tSt, List.size_toArray, List.length_append, List.length_cons, List.length_nil, Civ.d2_len]
  omega
end Go.Proofs.YtfjbonhlokbhpaaDoor
