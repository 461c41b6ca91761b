/- The contract of package calendar's parseDate, where the first list is none. -/
import Derived.Test.YteaaknbininehabDoorP6q
namespace Go.Proofs.YteaaknbininehabDoor
open Go.RowKit
set_option maxRecDepth 100000 in
set_option maxHeartbeats 1000000 in
theorem pdate1 (s t0 t1 t2 : ByteArray) (b : Nat) (w : World) (hg : GlP w) (hcb : Cb w b) (z0 : t0.size ≤ 100000)
    (hSp : Calls Tryd.prog 25 #[.string s, .string (str1 45), .int .i64 3] w fun e w' => ∃ cap, e = .returned (.slice (some ⟨w.heap.size, 0, none⟩) 3 cap) ∧ 3 ≤ cap ∧ Below w.heap.size w w' ∧ ∀ j x, [t0, t1, t2][j]? = some x → w'.cell? ⟨w.heap.size, j, none⟩ = some (.string x))
    (o1 : (pNs t0 1970 2200).isSome = false) :
    Calls Tryd.prog 29 #[.pointer (some ⟨b, 0, none⟩), .string s] w fun e w' => e = .returned (.bool false) ∧ ∃ c1 c2 c3, St w b 1 c1 c2 c3 w' := by
  have o1' : Hid ((pNs t0 1970 2200).isSome = false) := o1
  clear o1
  obtain ⟨hb2, hcs, hfs⟩ := hcb
  obtain ⟨u1, k1⟩ := hcs 1 (by omega)
  obtain ⟨u2, k2⟩ := hcs 2 (by omega)
  obtain ⟨u3, k3⟩ := hcs 3 (by omega)
  have bl : b < w.heap.size := cell_lt k1
  go_enter Tryd.func29, Tryd.ntmps29
  go_wp2_with fail
  refine hSp.mono ?_
  rintro e w1 ⟨cap, rfl, hcap, hbb, hcells⟩
  have hg1 := hg.below hbb
  have q0 := hcells 0 t0 rfl
  have q1 := hcells 1 t1 rfl
  have q2 := hcells 2 t2 rfl
  have m1 := (hbb.cell (p := ⟨b, 1, none⟩) bl).trans k1
  have m2 := (hbb.cell (p := ⟨b, 2, none⟩) bl).trans k2
  have m3 := (hbb.cell (p := ⟨b, 3, none⟩) bl).trans k3
  have n1 := (hbb.frozen (p := ⟨b, 1, none⟩) bl).trans (hfs 1)
  have n2 := (hbb.frozen (p := ⟨b, 2, none⟩) bl).trans (hfs 2)
  have n3 := (hbb.frozen (p := ⟨b, 3, none⟩) bl).trans (hfs 3)
  have hne : w.heap.size ≠ b := by omega
  have hC := St.start 1 hbb bl
  clear hcells hSp hcap hg k1 k2 k3 bl hbb hcs hfs
  go_wp2_with fail
  have hC0 : QC w b t0 t1 t2 w1.drew := ⟨q0, q1, q2, hg1.below (Below.refl _ _).drew, ⟨_, m1⟩, ⟨_, m2⟩, ⟨_, m3⟩, n1, n2, n3, ⟨none, none, none, hC.drew⟩⟩
  clear q0 q1 q2 m1 m2 m3 n1 n2 n3 hg1 hC
  have hconst : ∀ p : Prop, (∀ w', QC w b t0 t1 t2 w' → p) = p := fun p => propext ⟨fun h => h _ hC0, fun h _ _ => h⟩
  have hC0' : Hid _ := hC0
  clear hC0
  refine region_WQ (C := QC w b t0 t1 t2) (by kernel_rfl) (by kernel_rfl) hC0'.out ?_
  iterate 5 (refine WQ_step (fun K hK => ?_); simp only [SQ_eq]; go_simp; refine hK _ ?_; clear hK K)
  refine WQ_step (fun K hK => ?_)
  simp only [SQ_eq]
  go_simp
  refine Exists.intro (Value.string t0) (And.intro (fun w' hw => (by have h := hw.q0; simp [h])) ?_)
  go_simp
  refine hK _ ?_
  clear hK K
  iterate 1 (refine WQ_step (fun K hK => ?_); simp only [SQ_eq]; go_simp; refine hK _ ?_; clear hK K)
  refine WQ_step (fun K hK => ?_)
  simp only [SQ_eq]
  go_simp
  refine Exists.intro (Value.agg #[.int .i64 1970, .int .i64 2200]) (And.intro (fun w' hw => (by have h := hw.gl.gl.lim 0 1970 rfl; have h2 := hw.gl.gl.lim 1 2200 rfl; simp [h, h2])) ?_)
  go_simp
  refine hK _ ?_
  clear hK K
  refine WQ_step (fun K hK => ?_)
  simp only [SQ_eq]
  go_simp
  refine Exists.intro (Value.bool false) (And.intro (fun w' hw => qc1 hb2 hne t0 1970 2200 false o1'.out z0 hw) ?_)
  go_simp
  refine hK _ ?_
  clear hK K
  iterate 23 (refine WQ_step (fun K hK => ?_); simp only [SQ_eq]; go_simp; refine hK _ ?_; clear hK K)
  refine WQ_nil ?_
  intro w' hw
  obtain ⟨c1, c2, c3, hC'⟩ := hw.st
  go_wp2_with fail
  go_ret
  exact ⟨rfl, c1, c2, c3, hC'⟩
end Go.Proofs.YteaaknbininehabDoor
