/- The contract of package calendar's parseClock, of three texts, where the first two are some. -/
import Derived.Test.YteaaknbininehabDoorP8a
import Derived.Deep.AppendLies
import Derived.OwnWalk
namespace Go.Proofs.YteaaknbininehabDoor
open Go.RowKit
set_option maxRecDepth 100000 in
set_option maxHeartbeats 4000000 in
theorem clock33 (s t0 t1 t2 : ByteArray) (b : Nat) (w : World) (hg : GlP w) (hcb : Cb w b) (z0 : t0.size ≤ 100000) (z1 : t1.size ≤ 100000) (z2 : t2.size ≤ 100000)
    (hSp : Calls Tryd.prog 25 #[.string s, .string (str1 58), .int .i64 3] w fun e w' => ∃ cap, e = .returned (.slice (some ⟨w.heap.size, 0, none⟩) 3 cap) ∧ w'.ownsRow w.heap.size 9 1 (.slice (some ⟨w.heap.size, 0, none⟩) 3 cap) 3 [.string t0, .string t1, .string t2] ∧ Below w.heap.size w w')
    (o1 : (pNs t0 0 23).isSome = true) (o2 : (pNs t1 0 59).isSome = true) :
    Calls Tryd.prog 30 #[.pointer (some ⟨b, 0, none⟩), .string s] w fun e w' => e = .returned (.bool (pNs t2 0 59).isSome) ∧ St w b 4 (some ((pNs t0 0 23).getD [])) (some ((pNs t1 0 59).getD [])) (some ((pNs t2 0 59).getD [])) w' := by
  obtain ⟨hb2, hcs, hfs⟩ := hcb
  obtain ⟨u1, k1⟩ := hcs 4 (by omega)
  obtain ⟨u2, k2⟩ := hcs 5 (by omega)
  obtain ⟨u3, k3⟩ := hcs 6 (by omega)
  have bl : b < w.heap.size := cell_lt k1
  go_enter Tryd.func30, Tryd.ntmps30
  go_wp2_with fail
  refine hSp.mono ?_
  rintro e w1 ⟨cap, rfl, hown, hbb⟩
  have cc := hown.cells (g := w.heap.size) rfl
  have hgb : w.heap.size ≤ w.heap.size := Nat.le_refl _
  clear hown
  have hg1 := hg.below hbb
  have q0 : w1.cell? ⟨w.heap.size, 0, none⟩ = some (.string t0) := cc 0 _ rfl
  have q1 : w1.cell? ⟨w.heap.size, 1, none⟩ = some (.string t1) := cc 1 _ rfl
  have q2 : w1.cell? ⟨w.heap.size, 2, none⟩ = some (.string t2) := cc 2 _ rfl
  have m1 := (hbb.cell (p := ⟨b, 4, none⟩) bl).trans k1
  have m2 := (hbb.cell (p := ⟨b, 5, none⟩) bl).trans k2
  have m3 := (hbb.cell (p := ⟨b, 6, none⟩) bl).trans k3
  have n1 := (hbb.frozen (p := ⟨b, 4, none⟩) bl).trans (hfs 4)
  have n2 := (hbb.frozen (p := ⟨b, 5, none⟩) bl).trans (hfs 5)
  have n3 := (hbb.frozen (p := ⟨b, 6, none⟩) bl).trans (hfs 6)
  have hne : w.heap.size ≠ b := by omega
  have hC := St.start 4 hbb bl
  have l0 := hg1.gl.lim 6 0 rfl
  have l1 := hg1.gl.lim 7 23 rfl
  have l2 := hg1.gl.lim 8 0 rfl
  have l3 := hg1.gl.lim 9 59 rfl
  have l4 := hg1.gl.lim 10 0 rfl
  have l5 := hg1.gl.lim 11 59 rfl
  clear cc hSp hg k1 k2 k3 bl hbb hcs hfs
  go_wp2_with fail
  go_region_held3 (fun w' => w'.cell? ⟨w.heap.size, 0, none⟩ = some (.string t0) ∧ w'.cell? ⟨w.heap.size, 1, none⟩ = some (.string t1) ∧ w'.cell? ⟨w.heap.size, 2, none⟩ = some (.string t2) ∧ w'.cell? ⟨0, 6, none⟩ = some (.int .i64 0) ∧ w'.cell? ⟨0, 7, none⟩ = some (.int .i64 23) ∧ w'.cell? ⟨0, 8, none⟩ = some (.int .i64 0) ∧ w'.cell? ⟨0, 9, none⟩ = some (.int .i64 59) ∧ w'.cell? ⟨0, 10, none⟩ = some (.int .i64 0) ∧ w'.cell? ⟨0, 11, none⟩ = some (.int .i64 59))
    (first
      | assumption
      | exact hS
      | (refine ⟨?_, ?_, ?_, ?_, ?_, ?_, ?_, ?_, ?_⟩ <;> assumption)
      | (go_split_ands; refine ⟨?_, ?_, ?_, ?_, ?_, ?_, ?_, ?_, ?_⟩ <;> assumption))
    (first
      | (go_at_call 51; refine (pn2 _ _ _ b _ _ _ (by first | exact Or.inl rfl | exact Or.inr rfl) hg1 (by assumption) (by first | exact ⟨_, m1⟩ | exact ⟨_, m2⟩ | exact ⟨_, m3⟩) (by first | exact n1 | exact n2 | exact n3)).mono ?_; rintro e w2 ⟨he, sl, hu, hp⟩; (try rw [o1] at he); (try rw [o2] at he); subst he; replace hg1 := hu.glp hg1 hb2; (try replace m1 := (hu.cell 4 (by decide)).trans m1); (try replace m2 := (hu.cell 5 (by decide)).trans m2); (try replace m3 := (hu.cell 6 (by decide)).trans m3); replace n1 := (hu.froz 4).trans n1; replace n2 := (hu.froz 5).trans n2; replace n3 := (hu.froz 6).trans n3; replace q0 := hu.old hne q0; replace q1 := hu.old hne q1; replace q2 := hu.old hne q2; have hS := And.intro q0 (And.intro q1 (And.intro q2 (And.intro (hg1.gl.lim 6 0 rfl) (And.intro (hg1.gl.lim 7 23 rfl) (And.intro (hg1.gl.lim 8 0 rfl) (And.intro (hg1.gl.lim 9 59 rfl) (And.intro (hg1.gl.lim 10 0 rfl) (hg1.gl.lim 11 59 rfl)))))))); (first | replace hC := St.n1 hC hu hp | replace hC := St.n2 hC hu hp | replace hC := St.n3 hC hu hp); clear hu hp))
  go_wp2_with fail
  go_ret
  exact ⟨rfl, (by first | exact hC | exact hC.drew)⟩
end Go.Proofs.YteaaknbininehabDoor
