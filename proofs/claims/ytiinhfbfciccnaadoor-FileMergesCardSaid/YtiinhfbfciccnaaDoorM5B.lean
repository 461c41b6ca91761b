/- The contract of the law's small. -/
import Derived.Test.YtiinhfbfciccnaaDoorM2B
namespace Go.Proofs.YtiinhfbfciccnaaDoor
open Go.RowKit Go.Shelf
def sm (x : St) : Prop := x.s.size + x.k.size + x.v.size ≤ 500
/-- What small says. -/
def SmP (fs : List (Value × List St)) (w : World) (e : Ending) (w' : World) : Prop := ∃ q, e = .returned (.bool q) ∧ (q = true → fs.length ≤ 12 ∧ (flatF fs).length ≤ 200 ∧ ∀ x ∈ flatF fs, sm x) ∧ Below w.heap.size w w'
set_option maxRecDepth 100000 in
set_option maxHeartbeats 8000000 in
theorem small_few (a : Option Addr) (n c : Nat) (fs : List (Value × List St)) (w : World) (hfs : FsIs (fun _ => False) w (.slice a n c) fs) (hl : fs.length ≤ 12) (hL : ∀ p ∈ fs, p.2.length ≤ 140737488355328) (hz : ∀ p ∈ fs, ∀ x ∈ p.2, x.s.size ≤ 140737488355328 ∧ x.k.size ≤ 140737488355328 ∧ x.v.size ≤ 140737488355328) :
    Calls Tryd.prog 11 #[.slice a n c] w (SmP fs w) := by
  obtain ⟨a', c', hv, h1, h2⟩ := hfs
  simp only [Value.slice.injEq] at hv
  obtain ⟨rfl, rfl, rfl⟩ := hv
  obtain ⟨n, hn⟩ : ∃ n, fs.length = n := ⟨_, rfl⟩
  rw [hn] at h1 hl ⊢
  have hN : Hid (fs.length = n) := hn
  have h1H : Hid (0 < n → ∃ g o, a = some ⟨g, o, none⟩ ∧ ¬ False ∧ ∀ (j : Nat) p, fs[j]? = some p → w.cell? ⟨g, o + j, none⟩ = some p.1) := h1
  have h2H : Hid (∀ p ∈ fs, SlIs (fun _ => False) w p.1 p.2) := h2
  have hLH : Hid (∀ p ∈ fs, p.2.length ≤ 140737488355328) := hL
  have hzH : Hid (∀ p ∈ fs, ∀ x ∈ p.2, x.s.size ≤ 140737488355328 ∧ x.k.size ≤ 140737488355328 ∧ x.v.size ≤ 140737488355328) := hz
  clear hn h1 h2 hL hz
  go_enter Tryd.func11, Tryd.ntmps11
  go_wp2_with fail
  go_loopw [3, 4] (fun v3 v4 wx => ∃ (i N : Nat), i ≤ n ∧ v4 = .int .i64 i ∧ v3 = .int .i64 N ∧ N ≤ i * 140737488355328 ∧ Hid (N = (flatF (fs.take i)).length) ∧ Hid (N ≤ 200 → ∀ x ∈ flatF (fs.take i), sm x) ∧ Mv (fun _ => False) w wx) (fun _ v4 _ => n - (intOf v4).toNat)
  case atStart => exact ⟨0, 0, by omega, rfl, rfl, by omega, rfl, fun _ x hx => by simp [flatF] at hx, Mv.refl _ _⟩
  case round =>
    obtain ⟨i, N, hi, rfl, rfl, hNi, hNe, hsm, hm⟩ := hrel
    by_cases hlt : i < n
    · obtain ⟨g, o, rfl, -, hst⟩ := h1H.out (by omega)
      obtain ⟨p, hp⟩ : ∃ p, fs[i]? = some p := ⟨_, List.getElem?_eq_getElem (by rw [hN.out]; exact hlt)⟩
      obtain ⟨vi, ls⟩ := p
      have p0 := hst i _ hp
      have hmem := List.mem_of_getElem? hp
      have hq5 := hLH.out _ hmem
      have hz5 := hzH.out _ hmem
      obtain ⟨aS, cS, hvs, hs1⟩ := h2H.out _ hmem
      dsimp only at hvs hs1 p0 hq5 hz5
      subst hvs
      obtain ⟨q, hq⟩ : ∃ q, ls.length = q := ⟨_, rfl⟩
      rw [hq] at hs1 p0 hq5
      have hqH : Hid (ls.length = q) := hq
      have hz5H : Hid (∀ x ∈ ls, x.s.size ≤ 140737488355328 ∧ x.k.size ≤ 140737488355328 ∧ x.v.size ≤ 140737488355328) := hz5
      have hs1H : Hid (0 < q → ∃ g o, aS = some ⟨g, o, none⟩ ∧ ¬ False ∧ StAt w g o ls) := hs1
      have hftH : Hid (flatF (fs.take (i + 1)) = flatF (fs.take i) ++ ls) := flatF_take hp
      have hiI : (i : Int) < (n : Int) := by omega
      have p00 := hm.cell (fun h => h) p0
      have hNb : N ≤ 1688849860263936 := by omega
      obtain ⟨N2, hN2⟩ : ∃ N2, N + q = N2 := ⟨_, rfl⟩
      have hN2I : (N : Int) + (q : Int) = (N2 : Int) := by omega
      have hN2H : Hid (N + q = N2) := hN2
      have hN2b : N2 ≤ 1829587348619264 := by omega
      have hN2c : N2 ≤ (i + 1) * 140737488355328 := by omega
      clear hst hp hq hs1 hmem hz5 hN2
      go_wp2_with fail
      go_loopw [5] (fun v5 wx => ∃ (k : Nat), k ≤ q ∧ v5 = .int .i64 k ∧ Hid (∀ x ∈ ls.take k, sm x) ∧ Mv (fun _ => False) w wx) (fun v5 _ => q - (intOf v5).toNat)
      case atStart => exact ⟨0, by omega, rfl, fun x hx => by simp at hx, hm⟩
      case round =>
        clear p00 hm
        obtain ⟨k, hk, rfl, hsk, hm⟩ := hrel
        have p1 := hm.cell (fun h => h) p0
        have hmH := hidI6 hm
        by_cases hlk : k < q
        · have hkI : (k : Int) < (q : Int) := by omega
          by_cases h200 : N2 ≤ 200
          · have h2I : (N2 : Int) ≤ 200 := by omega
            obtain ⟨gs, os, rfl, -, hst⟩ := hs1H.out (by omega)
            obtain ⟨x, hx⟩ : ∃ x, ls[k]? = some x := ⟨_, List.getElem?_eq_getElem (by rw [hqH.out]; exact hlk)⟩
            obtain ⟨c0, c1, c2, c3⟩ := (hst k x hx).mv hm (fun h => h)
            obtain ⟨z1, z2, z3⟩ := hz5H.out x (List.mem_of_getElem? hx)
            have htk := take_snocS hx
            obtain ⟨U1, hU1⟩ : ∃ U1, wr.alloc (.cells #[.string x.s, .string x.k, .string x.v, .int .i64 x.n] 44) = U1 := ⟨_, rfl⟩
            have mU1 : Mv (fun _ => False) wr U1 := by rw [← hU1]; exact Mv.alloc _ _ _
            have x0 : U1.cell? ⟨wr.heap.size, 0, none⟩ = some (.string x.s) := by rw [← hU1]; exact cell_at rfl rfl
            have x1 : U1.cell? ⟨wr.heap.size, 1, none⟩ = some (.string x.k) := by rw [← hU1]; exact cell_at rfl rfl
            have x2 : U1.cell? ⟨wr.heap.size, 2, none⟩ = some (.string x.v) := by rw [← hU1]; exact cell_at rfl rfl
            have hmU := hidI6 (hm.trans' mU1)
            clear hst hx hm mU1
            by_cases h5 : 500 < x.s.size + x.k.size + x.v.size
            · have h5I : (500 : Int) < (x.s.size : Int) + (x.k.size : Int) + (x.v.size : Int) := by omega
              have hbf : Below w.heap.size w U1 := hmU.out.toBelow (Nat.le_refl _) (fun _ _ h => h)
              clear htk
              go_wp2_with (rw [hU1])
              go_ret
              exact ⟨false, rfl, fun h => Bool.noConfusion h, hbf⟩
            · have h5I : ¬ (500 : Int) < (x.s.size : Int) + (x.k.size : Int) + (x.v.size : Int) := by omega
              have hsk2 : Hid (∀ y ∈ ls.take (k + 1), sm y) := fun y hy => by
                rw [htk] at hy
                rcases List.mem_append.1 hy with hy | hy
                · exact hsk.out y hy
                · simp at hy; subst hy; unfold sm; omega
              clear htk hsk
              go_wp2_with (rw [hU1])
              exact ⟨⟨k + 1, by omega, by go_num, hsk2, hmU.out⟩, by simp [intOf]; omega⟩
          · have h2I : decide ((N2 : Int) ≤ 200) = false := by simp; omega
            have hne : Hid (N2 = (flatF (fs.take (i + 1))).length) := by show _ = _; rw [hftH.out, List.length_append, hqH.out, ← hNe.out, hN2H.out]
            have hno : Hid (N2 ≤ 200 → ∀ x ∈ flatF (fs.take (i + 1)), sm x) := fun h => absurd h h200
            clear hm
            go_wp2_with fail
            exact ⟨⟨i + 1, N2, by omega, by go_num, rfl, by omega, hne, hno, hmH.out⟩, by simp [intOf]; omega⟩
        · obtain rfl : k = q := by omega
          have hkI : ¬ ((k : Int) < (k : Int)) := by omega
          have hne : Hid (N2 = (flatF (fs.take (i + 1))).length) := by show _ = _; rw [hftH.out, List.length_append, hqH.out, ← hNe.out, hN2H.out]
          have hno : Hid (N2 ≤ 200 → ∀ x ∈ flatF (fs.take (i + 1)), sm x) := fun h x hx => by
            rw [hftH.out] at hx
            have := hN2H.out
            rcases List.mem_append.1 hx with hx | hx
            · exact hsm.out (by omega) x hx
            · exact hsk.out x (by rw [List.take_of_length_le (by rw [hqH.out]; omega)]; exact hx)
          clear hm hsk
          go_wp2_with fail
          exact ⟨⟨i + 1, N2, by omega, by go_num, rfl, by omega, hne, hno, hmH.out⟩, by simp [intOf]; omega⟩
    · obtain rfl : i = n := by omega
      have hiI : ¬ ((i : Int) < (i : Int)) := by omega
      have hall : fs.take i = fs := List.take_of_length_le (by rw [hN.out]; omega)
      rw [hall] at hNe hsm
      have hbf : Below w.heap.size w wr := hm.toBelow (Nat.le_refl _) (fun _ _ h => h)
      have hNb : N ≤ 1688849860263936 := by omega
      clear hm hall
      have h12I : (i : Int) ≤ 12 := by omega
      by_cases h200 : N ≤ 200
      · have h2I : (N : Int) ≤ 200 := by omega
        go_wp2_with fail
        go_ret
        exact ⟨true, rfl, fun _ => ⟨by rw [hN.out]; exact hl, by rw [← hNe.out]; exact h200, hsm.out h200⟩, hbf⟩
      · have h2I : decide ((N : Int) ≤ 200) = false := by simp; omega
        go_wp2_with fail
        go_ret
        exact ⟨false, rfl, fun h => Bool.noConfusion h, hbf⟩
end Go.Proofs.YtiinhfbfciccnaaDoor
