/- The contract of the law's small, where there are more than twelve files: then it says no, whatever its sum wraps to. -/
import Derived.Test.YtiinhfbfciccnaaDoorM5B
namespace Go.Proofs.YtiinhfbfciccnaaDoor
open Go.RowKit Go.Shelf
set_option maxRecDepth 100000 in
set_option maxHeartbeats 8000000 in
theorem small_many (a : Option Addr) (n c : Nat) (fs : List (Value × List St)) (w : World) (hfs : FsIs (fun _ => False) w (.slice a n c) fs) (h12 : 12 < fs.length) (hl : fs.length ≤ 140737488355328) (hL : ∀ p ∈ fs, p.2.length ≤ 140737488355328) (hz : ∀ p ∈ fs, ∀ x ∈ p.2, x.s.size ≤ 140737488355328 ∧ x.k.size ≤ 140737488355328 ∧ x.v.size ≤ 140737488355328) :
    Calls Tryd.prog 11 #[.slice a n c] w (SmP fs w) := by
  suffices H : Calls Tryd.prog 11 #[.slice a n c] w fun e w' => e = .returned (.bool false) ∧ Below w.heap.size w w' from H.mono (fun e w' h => ⟨false, h.1, fun h => Bool.noConfusion h, h.2⟩)
  obtain ⟨a', c', hv, h1, h2⟩ := hfs
  simp only [Value.slice.injEq] at hv
  obtain ⟨rfl, rfl, rfl⟩ := hv
  obtain ⟨n, hn⟩ : ∃ n, fs.length = n := ⟨_, rfl⟩
  rw [hn] at h1 hl h12 ⊢
  have hN : Hid (fs.length = n) := hn
  have h1H : Hid (0 < n → ∃ g o, a = some ⟨g, o, none⟩ ∧ ¬ False ∧ ∀ (j : Nat) p, fs[j]? = some p → w.cell? ⟨g, o + j, none⟩ = some p.1) := h1
  have h2H : Hid (∀ p ∈ fs, SlIs (fun _ => False) w p.1 p.2) := h2
  have hLH : Hid (∀ p ∈ fs, p.2.length ≤ 140737488355328) := hL
  have hzH : Hid (∀ p ∈ fs, ∀ x ∈ p.2, x.s.size ≤ 140737488355328 ∧ x.k.size ≤ 140737488355328 ∧ x.v.size ≤ 140737488355328) := hz
  clear hn h1 h2 hL hz
  go_enter Tryd.func11, Tryd.ntmps11
  go_wp2_with fail
  go_loopw [3, 4] (fun v3 v4 wx => ∃ (i : Nat) (N : Int), i ≤ n ∧ v4 = .int .i64 i ∧ v3 = .int .i64 N ∧ Mv (fun _ => False) w wx) (fun _ v4 _ => n - (intOf v4).toNat)
  case atStart => exact ⟨0, 0, by omega, rfl, rfl, Mv.refl _ _⟩
  case round =>
    obtain ⟨i, N, hi, rfl, rfl, hm⟩ := hrel
    by_cases hlt : i < n
    · obtain ⟨g, o, rfl, -, hst⟩ := h1H.out (by omega)
      obtain ⟨p, hp⟩ : ∃ p, fs[i]? = some p := ⟨_, List.getElem?_eq_getElem (by rw [hN.out]; exact hlt)⟩
      obtain ⟨vi, ls⟩ := p
      have p0 := hst i _ hp
      have hmem := List.mem_of_getElem? hp
      have hq5 := hLH.out _ hmem
      have hz5 := hzH.out _ hmem
      obtain ⟨aS, cS, hvs, hs1⟩ := h2H.out _ hmem
      dsimp only at hvs hs1 p0 hq5 hz5
      subst hvs
      obtain ⟨q, hq⟩ : ∃ q, ls.length = q := ⟨_, rfl⟩
      rw [hq] at hs1 p0 hq5
      have hqH : Hid (ls.length = q) := hq
      have hz5H : Hid (∀ x ∈ ls, x.s.size ≤ 140737488355328 ∧ x.k.size ≤ 140737488355328 ∧ x.v.size ≤ 140737488355328) := hz5
      have hs1H : Hid (0 < q → ∃ g o, aS = some ⟨g, o, none⟩ ∧ ¬ False ∧ StAt w g o ls) := hs1
      have hiI : (i : Int) < (n : Int) := by omega
      have p00 := hm.cell (fun h => h) p0
      obtain ⟨N2, hN2⟩ : ∃ N2, IntKind.i64.wrap (N + (q : Int)) = N2 := ⟨_, rfl⟩
      clear hst hp hq hs1 hmem hz5
      go_wp2_with fail
      go_loopw [5] (fun v5 wx => ∃ (k : Nat), k ≤ q ∧ v5 = .int .i64 k ∧ Mv (fun _ => False) w wx) (fun v5 _ => q - (intOf v5).toNat)
      case atStart => exact ⟨0, by omega, rfl, hm⟩
      case round =>
        clear p00 hm
        obtain ⟨k, hk, rfl, hm⟩ := hrel
        have p1 := hm.cell (fun h => h) p0
        have hmH := hidI6 hm
        by_cases hlk : k < q
        · have hkI : (k : Int) < (q : Int) := by omega
          by_cases h200 : N2 ≤ 200
          · obtain ⟨gs, os, rfl, -, hst⟩ := hs1H.out (by omega)
            obtain ⟨x, hx⟩ : ∃ x, ls[k]? = some x := ⟨_, List.getElem?_eq_getElem (by rw [hqH.out]; exact hlk)⟩
            obtain ⟨c0, c1, c2, c3⟩ := (hst k x hx).mv hm (fun h => h)
            obtain ⟨z1, z2, z3⟩ := hz5H.out x (List.mem_of_getElem? hx)
            obtain ⟨U1, hU1⟩ : ∃ U1, wr.alloc (.cells #[.string x.s, .string x.k, .string x.v, .int .i64 x.n] 44) = U1 := ⟨_, rfl⟩
            have mU1 : Mv (fun _ => False) wr U1 := by rw [← hU1]; exact Mv.alloc _ _ _
            have x0 : U1.cell? ⟨wr.heap.size, 0, none⟩ = some (.string x.s) := by rw [← hU1]; exact cell_at rfl rfl
            have x1 : U1.cell? ⟨wr.heap.size, 1, none⟩ = some (.string x.k) := by rw [← hU1]; exact cell_at rfl rfl
            have x2 : U1.cell? ⟨wr.heap.size, 2, none⟩ = some (.string x.v) := by rw [← hU1]; exact cell_at rfl rfl
            have hmU := hidI6 (hm.trans' mU1)
            clear hst hx hm mU1
            by_cases h5 : 500 < x.s.size + x.k.size + x.v.size
            · have h5I : (500 : Int) < (x.s.size : Int) + (x.k.size : Int) + (x.v.size : Int) := by omega
              have hbf : Below w.heap.size w U1 := hmU.out.toBelow (Nat.le_refl _) (fun _ _ h => h)
              go_wp2_with (rw [hU1])
              go_ret
              exact ⟨rfl, hbf⟩
            · have h5I : ¬ (500 : Int) < (x.s.size : Int) + (x.k.size : Int) + (x.v.size : Int) := by omega
              go_wp2_with (rw [hU1])
              exact ⟨⟨k + 1, by omega, by go_num, hmU.out⟩, by simp [intOf]; omega⟩
          · have h2I : decide (N2 ≤ 200) = false := by simp; omega
            clear hm
            go_wp2_with fail
            exact ⟨⟨i + 1, N2, by omega, by go_num, rfl, hmH.out⟩, by simp [intOf]; omega⟩
        · obtain rfl : k = q := by omega
          have hkI : ¬ ((k : Int) < (k : Int)) := by omega
          clear hm
          go_wp2_with fail
          exact ⟨⟨i + 1, N2, by omega, by go_num, rfl, hmH.out⟩, by simp [intOf]; omega⟩
    · obtain rfl : i = n := by omega
      have hiI : ¬ ((i : Int) < (i : Int)) := by omega
      have hbf : Below w.heap.size w wr := hm.toBelow (Nat.le_refl _) (fun _ _ h => h)
      clear hm
      have h12I : decide ((i : Int) ≤ 12) = false := by simp; omega
      go_wp2_with fail
      go_ret
      exact ⟨rfl, hbf⟩
theorem small_any (a : Option Addr) (n c : Nat) (fs : List (Value × List St)) (w : World) (hfs : FsIs (fun _ => False) w (.slice a n c) fs) (hl : fs.length ≤ 140737488355328) (hL : ∀ p ∈ fs, p.2.length ≤ 140737488355328) (hz : ∀ p ∈ fs, ∀ x ∈ p.2, x.s.size ≤ 140737488355328 ∧ x.k.size ≤ 140737488355328 ∧ x.v.size ≤ 140737488355328) :
    Calls Tryd.prog 11 #[.slice a n c] w (SmP fs w) := by
  by_cases h : fs.length ≤ 12
  · exact small_few a n c fs w hfs h hL hz
  · exact small_many a n c fs w hfs (by omega) hl hL hz
end Go.Proofs.YtiinhfbfciccnaaDoor
