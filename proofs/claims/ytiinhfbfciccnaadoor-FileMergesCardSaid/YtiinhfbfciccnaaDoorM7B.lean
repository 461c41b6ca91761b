/- slices.Values of texts under FileMerges's second closure. -/
import Derived.Test.YtiinhfbfciccnaaDoorM6B
namespace Go.Proofs.YtiinhfbfciccnaaDoor
open Go.RowKit Go.Shelf
set_option maxHeartbeats 1000000 in
theorem svals_any (a : Option Addr) (n c : Nat) (w : World) : Calls Tryd.prog 34 #[.slice a n c] w fun e w' => e = .returned (.func (.func 45) #[] #[.pointer (some ⟨w.heap.size, 0, none⟩)]) ∧ w' = w.alloc (.cells #[.slice a n c] 38) := by
  go_enter Tryd.func34, Tryd.ntmps34
  go_wp2
  go_ret
  exact ⟨rfl, rfl⟩
set_option maxRecDepth 100000 in
set_option maxHeartbeats 4000000 in
theorem svalsD (zs : List ByteArray) (b pa gz oz cz : Nat) (az : Option Addr) (W0 : World) (hpa : pa < W0.heap.size) (cb : W0.cell? ⟨b, 0, none⟩ = some (.slice az zs.length cz)) (h1 : 0 < zs.length → az = some ⟨gz, oz, none⟩ ∧ gz ≠ pa) (h2 : ∀ j s, zs[j]? = some s → W0.cell? ⟨gz, oz + j, none⟩ = some (.string s)) (ca : Cl pa (.slice none 0 0) W0) (hl : zs.length ≤ 240) :
    Calls Tryd.prog 45 #[.func (.func 20) #[] #[.pointer (some ⟨pa, 0, none⟩)], .pointer (some ⟨b, 0, none⟩)] W0 fun e W' => e = .returned (.tuple #[]) ∧ ∃ v', Cl pa v' W' ∧ W'.ownsRow W0.heap.size 9 1 v' zs.length (zs.map Value.string) ∧ Mv (Td W0.heap.size pa) W0 W' := by
  have hTd : ∀ k, k ≠ pa → k < W0.heap.size → ¬ Td W0.heap.size pa k := fun k h1 h2 h => by rcases h with h | h <;> omega
  obtain ⟨n, hn⟩ : ∃ n, zs.length = n := ⟨_, rfl⟩
  have h1H : Hid (0 < zs.length → az = some ⟨gz, oz, none⟩ ∧ gz ≠ pa) := h1
  have h2H : Hid (∀ j s, zs[j]? = some s → W0.cell? ⟨gz, oz + j, none⟩ = some (.string s)) := h2
  rw [hn] at cb hl
  have hN : Hid (zs.length = n) := hn
  have caH : Hid (Cl pa (.slice none 0 0) W0) := ca
  clear hn h1 h2 ca
  go_enter Tryd.func45, Tryd.ntmps45
  go_wp2_with fail
  go_loopw [7] (fun i wr => ∃ (k : Nat) (gv : Value) (acc : List ByteArray), k ≤ n ∧ i = .int .i64 k ∧ acc.length ≤ k ∧ Hid (acc = zs.take k) ∧ Cl pa gv wr ∧ Hid (wr.ownsRow W0.heap.size 9 1 gv acc.length (acc.map Value.string)) ∧ Mv (Td W0.heap.size pa) W0 wr) (fun i _ => n - (intOf i).toNat)
  case atStart => exact ⟨0, _, [], by omega, rfl, by simp, rfl, caH.out, World.ownsRow_nil _ _ _ _, Mv.refl _ _⟩
  case round =>
    obtain ⟨k, gv, acc, hk, rfl, hal, hacc, hcl, ho, hm⟩ := hrel
    by_cases hlt : k < n
    · obtain ⟨rfl, hgp⟩ := h1H.out (by rw [hN.out]; omega)
      obtain ⟨x, hx⟩ : ∃ x, zs[k]? = some x := ⟨_, List.getElem?_eq_getElem (by rw [hN.out]; exact hlt)⟩
      have c0 := h2H.out k x hx
      have c1 := hm.cell (hTd _ hgp (cell_lt c0)) c0
      have hkI : (k : Int) < (n : Int) := by omega
      have hms := hm.size
      have hacc2 : Hid (acc ++ [x] = zs.take (k + 1)) := by show _ = _; rw [List.take_add_one, hx, hacc.out]; rfl
      have hcall := merges2_any W0.heap.size pa x gv acc wr hms hpa hcl ho.out (by omega)
      have hcallH : Hid (Calls Tryd.prog 20 #[.string x, .pointer (some ⟨pa, 0, none⟩)] wr fun e W' => e = .returned (.bool true) ∧ ∃ v', Cl pa v' W' ∧ W'.ownsRow W0.heap.size 9 1 v' (acc.length + 1) ((acc ++ [x]).map Value.string) ∧ Mv (Td W0.heap.size pa) wr W') := hcall
      have hmH : Hid (Mv (Td W0.heap.size pa) W0 wr) := hm
      clear hcall hacc hx c0 hm ho hcl
      go_wp2_with (go_at_call 20; refine hcallH.out.mono ?_; rintro e w' ⟨rfl, v', hca, hown, hmv⟩)
      exact ⟨⟨k + 1, v', acc ++ [x], by omega, by go_num, by simp; omega, hacc2, hca, by rw [List.length_append]; exact hown, hmH.out.trans' hmv⟩, by simp [intOf]; omega⟩
    · obtain rfl : k = n := by omega
      have hkI : ¬ ((k : Int) < (k : Int)) := by omega
      have hfin : acc = zs := by rw [hacc.out, List.take_of_length_le (by rw [hN.out]; omega)]
      subst hfin
      have hoH := ho
      have hmH : Hid (Mv (Td W0.heap.size pa) W0 wr) := hm
      clear hacc hm
      go_wp2_with fail
      go_end0
      exact ⟨rfl, gv, hcl, hoH.out, hmH.out⟩
end Go.Proofs.YtiinhfbfciccnaaDoor
