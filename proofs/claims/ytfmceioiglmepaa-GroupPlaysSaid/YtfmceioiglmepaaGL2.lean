/- Members of a group that is not there. -/
import Derived.Test.YtfmceioiglmepaaGL
import Derived.Shelf.SlIterI.Nil
namespace Go.Proofs.Ytfmceioiglmepaa
open Go.RowKit Go.Shelf Go.Lib Go.Maps Go.Sort
theorem sorted_nil (w : World) : Calls Try.prog 40 #[.func (.func 47) #[] #[.pointer (some ⟨w.heap.size, 0, none⟩)]] (w.alloc (.cells #[.map none] 65)) fun e w' => e = .returned (.slice none 0 0) ∧ Below w.heap.size w w' := by
  have hseq : SeqGives Fence.wide 2 Try.prog 47 #[.pointer (some ⟨w.heap.size, 0, none⟩)] encZ (fun ss : List Int => ss = []) 0 (w.alloc (.cells #[.map none] 65)) :=
    AnyZI.keys_gives_nil (ρ := Try.keysA_ren) { Try.keysA with } Fence.wide _ trivial rfl w.heap.size _ (by simp) (by simp)
  have cS := AnyZI.sorted_in Try.sortedA Fence.wide 5 trivial trivial trivial trivial rfl (by omega) (Try.sortsA _) (enters_of Try.func46 (by kernel_rfl) rfl) 47 #[.pointer (some ⟨w.heap.size, 0, none⟩)] trivial (enters_of Try.func47 (by kernel_rfl) rfl) _ 0 (Nat.zero_le _) (by omega) _ hseq
  change CallsIn _ _ Try.prog 40 _ _ _ at cS
  refine ((callsIn_wide (n := 5)).1 cS).mono ?_
  rintro e w' ⟨v, ss, rfl, rfl, _, hnil, hb⟩
  obtain rfl : v = .slice none 0 0 := hnil.2 rfl
  exact ⟨rfl, ((Below.refl _ w).alloc (Nat.le_refl _) _).trans (hb.mono (by simp))⟩
set_option maxRecDepth 100000 in
set_option maxHeartbeats 2000000 in
theorem rising_nil (w : World) :
    Calls Try.prog 34 #[.map none] w fun e w' => e = .returned (.slice none 0 0) ∧ Below w.heap.size w w' := by
  have hso := sorted_nil w
  go_enter Try.func34, Try.ntmps34
  go_wp2_with fail
  refine (Try.maps_Keys _ _).mono ?_
  rintro e w2 ⟨rfl, rfl⟩
  go_wp2_with fail
  refine hso.mono ?_
  rintro e w3 ⟨rfl, hb⟩
  clear hso
  go_wp2_with fail
  go_ret
  exact ⟨rfl, hb⟩
set_option maxRecDepth 100000 in
set_option maxHeartbeats 2000000 in
theorem members_none (S : St) (s : ByteArray) (w : World) (h : Gs w S) (hs : s.size ≤ 1000) (hf : fnd S.l s = none) :
    Calls Try.prog 21 #[.pointer (some ⟨S.bt, 0, none⟩), .string s] w fun e w' => e = .returned (.slice none 0 0) ∧ Below w.heap.size w w' := by
  obtain ⟨m, hm, ho⟩ := h.held
  have hlk := ho.look1 lawS (t := 58) Try.underlying58 (zeroG w) (keyS hs)
  rw [hf] at hlk
  simp only [Option.map_none, Option.getD_none, gzV] at hlk
  have hr := rising_nil w
  have c0 := h.c0
  have hfd : ∀ W : World, (Instr.field 67 (.agg #[.string ⟨#[]⟩, .map none]) 1).run Try.prog W = .ok (.map none) W := fun W => by kernel_rfl
  clear h hm ho hf
  go_enter Try.func21, Try.ntmps21
  go_wp2_with fail
  refine hr.mono ?_
  rintro e w1 ⟨rfl, hb⟩
  clear hr
  go_wp2_with fail
  go_ret
  exact ⟨rfl, hb⟩
end Go.Proofs.Ytfmceioiglmepaa
