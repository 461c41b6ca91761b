/- known. -/
import Derived.Test.YtgienkdfodjoiaaGreatK8
namespace Go.Proofs.YtgienkdfodjoiaaGreat
open Go.RowKit Go.Shelf
def tA : ByteArray := ⟨#[97]⟩
def tX : ByteArray := ⟨#[120]⟩
set_option maxRecDepth 100000 in
set_option maxHeartbeats 4000000 in
theorem known_any (w : World) : Calls Tryz.prog 7 #[] w fun e w' => e = .returned (.bool true) ∧ Below w.heap.size w w' := by
  have hN := new_p 10 5 w
  go_enter Tryz.func7, Tryz.ntmps7
  go_wp2_with fail
  refine hN.mono ?_
  rintro e W1 ⟨b, rfl, _, h1⟩
  have hG := groups_p b W1
  have h1H := hidK h1
  clear hN h1
  unfold kptr at hG ⊢
  go_wp2_with fail
  refine hG.mono ?_
  rintro e W1' ⟨rfl, rfl⟩
  have hM := make_p h1H.out (by decide) tA (by decide)
  rw [show Cg.makeE (p0 10 5).gl tA = 0 by kernel_rfl] at hM
  unfold gptr at hM ⊢
  simp only [tA] at hM
  clear hG
  go_wp2_with fail
  refine hM.mono ?_
  rintro e W2 ⟨rfl, k, h2⟩
  rw [if_pos trivial] at h2
  have h2' : Kp F0 w b 2 ⟨10, 1, [], [⟨tA, k, []⟩], [], 0, 5⟩ W2 := h2
  have hS := spawn_p h2' (by decide) tA tX (by decide)
  rw [show spQ ⟨10, 1, [], [⟨tA, k, []⟩], [], 0, 5⟩ tA tX = ⟨2, 0, 2, [⟨2, 1, tA, false, 0, tX, false, false⟩], [⟨tA, k, [2]⟩], []⟩ by kernel_rfl] at hS
  unfold kptr at hS
  simp only [tA, tX] at hS
  clear hM h2 h2' h1H
  go_wp2_with fail
  refine hS.mono ?_
  rintro e W3 ⟨rfl, h3⟩
  have h3' : Kp F0 w b 4 ⟨10, 2, [⟨2, 1, tA, false, 0, tX, false, false⟩], [⟨tA, k, [2]⟩], [], 0, 5⟩ W3 := h3
  have hF := fork_p h3' (by decide) 2 (by decide) (by decide)
  rw [show fkQ ⟨10, 2, [⟨2, 1, tA, false, 0, tX, false, false⟩], [⟨tA, k, [2]⟩], [], 0, 5⟩ 2 = ⟨3, 0, 3, [⟨2, 1, tA, false, 0, tX, false, false⟩, ⟨3, 2, tA, false, 0, tX, false, false⟩], [⟨tA, k, [2, 3]⟩], []⟩ by kernel_rfl] at hF
  unfold kptr at hF
  clear hS h3 h3'
  go_wp2_with fail
  refine hF.mono ?_
  rintro e W4 ⟨rfl, h4⟩
  have h4' : Kp F0 w b 6 ⟨10, 3, [⟨2, 1, tA, false, 0, tX, false, false⟩, ⟨3, 2, tA, false, 0, tX, false, false⟩], [⟨tA, k, [2, 3]⟩], [], 0, 5⟩ W4 := h4
  have hK := killg_p h4' (by decide) tA (by decide) 9
  rw [show kgC 9 (Pl.l ⟨10, 3, [⟨2, 1, tA, false, 0, tX, false, false⟩, ⟨3, 2, tA, false, 0, tX, false, false⟩], [⟨tA, k, [2, 3]⟩], [], 0, 5⟩) (Cg.mOf (Pl.gl ⟨10, 3, [⟨2, 1, tA, false, 0, tX, false, false⟩, ⟨3, 2, tA, false, 0, tX, false, false⟩], [⟨tA, k, [2, 3]⟩], [], 0, 5⟩) tA) = 2 by kernel_rfl, show kgQ ⟨10, 3, [⟨2, 1, tA, false, 0, tX, false, false⟩, ⟨3, 2, tA, false, 0, tX, false, false⟩], [⟨tA, k, [2, 3]⟩], [], 0, 5⟩ tA 9 = ⟨10, 3, [⟨2, 1, tA, false, 0, tX, false, true⟩, ⟨3, 2, tA, false, 0, tX, false, true⟩], [⟨tA, k, [2, 3]⟩], [], 0, 5⟩ by kernel_rfl] at hK
  unfold kptr at hK
  have hK2 : Calls Tryz.prog 23 #[.pointer (some ⟨b, 0, none⟩), .string ⟨#[97]⟩, .int .i64 9] W4 fun e W' => e = .returned (.int .i64 2) ∧ Kp F0 w b 6 ⟨10, 3, [⟨2, 1, tA, false, 0, tX, false, true⟩, ⟨3, 2, tA, false, 0, tX, false, true⟩], [⟨tA, k, [2, 3]⟩], [], 0, 5⟩ W' := hK
  clear hF h4 h4' hK
  go_wp2_with fail
  refine hK2.mono ?_
  rintro e W5 ⟨rfl, h5⟩
  have hD := die_p h5 (by decide) 2 (by decide) (by decide)
  rw [show dieQE ⟨10, 3, [⟨2, 1, tA, false, 0, tX, false, true⟩, ⟨3, 2, tA, false, 0, tX, false, true⟩], [⟨tA, k, [2, 3]⟩], [], 0, 5⟩ 2 = 0 by kernel_rfl, show dieQ ⟨10, 3, [⟨2, 1, tA, false, 0, tX, false, true⟩, ⟨3, 2, tA, false, 0, tX, false, true⟩], [⟨tA, k, [2, 3]⟩], [], 0, 5⟩ 2 = ⟨10, 3, [⟨2, 1, tA, true, -9, tX, false, true⟩, ⟨3, 1, tA, false, 0, tX, false, true⟩], [⟨tA, k, [3]⟩], [], 0, 5⟩ by kernel_rfl] at hD
  unfold kptr at hD
  clear hK2 h5
  go_wp2_with fail
  refine hD.mono ?_
  rintro e W6 ⟨rfl, h6⟩
  have hD2 := die_p h6 (by decide) 3 (by decide) (by decide)
  rw [show dieQE ⟨10, 3, [⟨2, 1, tA, true, -9, tX, false, true⟩, ⟨3, 1, tA, false, 0, tX, false, true⟩], [⟨tA, k, [3]⟩], [], 0, 5⟩ 3 = 0 by kernel_rfl, show dieQ ⟨10, 3, [⟨2, 1, tA, true, -9, tX, false, true⟩, ⟨3, 1, tA, false, 0, tX, false, true⟩], [⟨tA, k, [3]⟩], [], 0, 5⟩ 3 = ⟨10, 3, [⟨2, 1, tA, true, -9, tX, false, true⟩, ⟨3, 1, tA, true, -9, tX, false, true⟩], [⟨tA, k, []⟩], [tA], 0, 5⟩ by kernel_rfl] at hD2
  unfold kptr at hD2
  clear hD h6
  go_wp2_with fail
  refine hD2.mono ?_
  rintro e W7 ⟨rfl, h7⟩
  have hG := groups_p b W7
  have h7H := hidK h7
  clear hD2 h7
  unfold kptr at hG
  go_wp2_with fail
  refine hG.mono ?_
  rintro e W7' ⟨rfl, rfl⟩
  have hE := emptied_p h7H.out (by intro x hx; simp at hx; subst hx; decide)
  rw [show Cg.empR (Pl.gl ⟨10, 3, [⟨2, 1, tA, true, -9, tX, false, true⟩, ⟨3, 1, tA, true, -9, tX, false, true⟩], [⟨tA, k, []⟩], [tA], 0, 5⟩) (Pl.ns ⟨10, 3, [⟨2, 1, tA, true, -9, tX, false, true⟩, ⟨3, 1, tA, true, -9, tX, false, true⟩], [⟨tA, k, []⟩], [tA], 0, 5⟩) = (some tA, []) by kernel_rfl] at hE
  unfold gptr at hE ⊢
  simp only [tA, Cg.ifS, Option.getD_some, Option.isSome_some] at hE
  clear hG h7H
  go_wp2_with fail
  refine hE.mono ?_
  rintro e W8 ⟨rfl, h8⟩
  have hT := tick_p h8 (by dsimp only; omega) (by dsimp only; omega) (by dsimp only; omega) (by dsimp only; omega) 3 (by decide) (by decide)
  unfold kptr at hT
  clear hE h8
  go_wp2_with fail
  refine hT.mono ?_
  rintro e W9 ⟨rfl, h9⟩
  have hMo := mono_p h9
  have hWa := wall_p h9
  simp only [show addS 0 3 = 3 by decide, show addS 5 3 = 8 by decide] at hMo hWa
  unfold kptr at hMo hWa
  have h9H := hidK h9
  clear hT h9
  go_wp2_with fail
  refine hMo.mono ?_
  rintro e W9' ⟨rfl, rfl⟩
  go_wp2_with fail
  refine hWa.mono ?_
  rintro e W9' ⟨rfl, rfl⟩
  have hD3 := die_p h9H.out (by decide) 2 (by decide) (by decide)
  unfold kptr at hD3
  have hD4 : Calls Tryz.prog 19 #[.pointer (some ⟨b, 0, none⟩), .int .i64 2] W9' fun e W' => e = .returned (.int .i64 80) ∧ Below w.heap.size w W' := hD3.mono (fun e W' q => ⟨q.1, q.2.bl⟩)
  clear hMo hWa hD3
  go_wp2_with fail
  refine hD4.mono ?_
  rintro e W10 ⟨rfl, h10⟩
  have fin := hidK h10
  clear hD4 h10
  go_wp2_with fail
  go_ret
  exact ⟨rfl, fin.out⟩
end Go.Proofs.YtgienkdfodjoiaaGreat
