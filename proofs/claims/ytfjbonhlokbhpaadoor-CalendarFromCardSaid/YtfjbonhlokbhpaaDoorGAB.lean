/- CalendarGaps. -/
import Derived.Test.YtfjbonhlokbhpaaDoorZL
import Derived.Test.YtfjbonhlokbhpaaDoorZM
import Derived.Test.YtfjbonhlokbhpaaDoorZI
namespace Go.Proofs.YtfjbonhlokbhpaaDoor
open Go.RowKit
theorem c32 : Tryd.prog.cellsOf 43 = 1 := by kernel_rfl
theorem rd_u32s {W : World} {v : Value} (h : Rd Tryd.prog W 42 [v]) : ∃ (a : Option Addr) (cap b o : Nat) (us : List Nat), v = .slice a us.length cap ∧ (0 < us.length → a = some ⟨b, o, none⟩) ∧ (∀ j u, us[j]? = some u → W.cell? ⟨b, o + j, none⟩ = some (.int .u32 (u : Nat))) ∧ (∀ u ∈ us, u ≤ 4294967295) ∧ us.length ≤ maxLen := by
  rcases rd_slice h Tryd.underlying42 with e | ⟨a, len, cap, e, hlc, hml, hby, hx⟩
  · simp only [List.cons.injEq, and_true] at e
    subst e
    exact ⟨none, 0, 0, 0, [], rfl, fun h => by simp at h, fun j u hj => by simp at hj, fun u hu => by simp at hu, by simp [maxLen]⟩
  · simp only [List.cons.injEq, and_true] at e
    subst e
    obtain ⟨f, hf⟩ := Go.Deep.choose_lt (α := Nat) (n := len) (p := fun i q => W.cell? (a.add i) = some (.int .u32 (q : Nat)) ∧ q ≤ 4294967295) (fun i hi => by
      obtain ⟨cs', h1, h2⟩ := hx i hi
      obtain ⟨n, rfl, hw⟩ := rd_int h2 Tryd.underlying43
      rw [c32] at h1
      have hc := (rd_cell h1).2 0 (by omega)
      have hb : 0 ≤ n ∧ n ≤ 4294967295 := bounds_u32 hw
      refine ⟨n.toNat, ?_, by omega⟩
      rw [Int.toNat_of_nonneg hb.1]
      have e0 : (a.add (i * 1)).add 0 = a.add i := by simp [Addr.add]
      rw [e0] at hc
      simpa using hc)
    have hln : ((List.range len).map f).length = len := by simp
    by_cases h0 : 0 < len
    · obtain ⟨b, o, spot⟩ := a
      have hspot : spot = none := by
        have := World.cell?_spot (hf 0 h0).1
        simpa [Addr.add] using this
      subst hspot
      refine ⟨some ⟨b, o, none⟩, cap, b, o, (List.range len).map f, by rw [hln], fun _ => rfl, fun j u hj => ?_, fun u hu => ?_, by rw [hln]; omega⟩
      · have hi : j < len := by have := (List.getElem?_eq_some_iff.1 hj).1; rwa [hln] at this
        have hq' : f j = u := by
          rw [List.getElem?_map, List.getElem?_range hi] at hj
          simpa using hj
        have := (hf j hi).1
        rw [hq', Go.WideShapes.add_plain] at this
        exact this
      · obtain ⟨i, hi, rfl⟩ := List.mem_map.1 hu
        exact (hf i (List.mem_range.1 hi)).2
    · obtain rfl : len = 0 := by omega
      exact ⟨some a, cap, 0, 0, [], rfl, fun h => by simp at h, fun j u hj => by simp at hj, fun u hu => by simp at hu, by simp [maxLen]⟩
theorem mtM_mt (c : Cal.C7) (x : Int) : mtM c (Civ.dY (x / 86400)) (Civ.dM (x / 86400)) (Civ.dD (x / 86400)) (mH x) (mMi x) (mS x) = Cal.mt c x := by
  have e1 : mH x = x % 86400 / 3600 := rfl
  have e2 : mMi x = x % 86400 / 60 % 60 := by unfold mMi; omega
  have e3 : mS x = x % 60 := by unfold mS; omega
  unfold mtM Cal.mt
  rw [Civ.date_num, e1, e2, e3]
end Go.Proofs.YtfjbonhlokbhpaaDoor
