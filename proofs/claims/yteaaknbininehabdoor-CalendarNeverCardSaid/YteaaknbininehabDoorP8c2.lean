/- The contract of package calendar's parseClock, of three texts, where the second list is none. -/
import Derived.Test.YteaaknbininehabDoorP8a
import Derived.Deep.AppendLies
import Derived.OwnWalk
namespace Go.Proofs.YteaaknbininehabDoor
open Go.RowKit
set_option maxRecDepth 100000 in
set_option maxHeartbeats 4000000 in
theorem clock32 (s t0 t1 t2 : ByteArray) (b : Nat) (w : World) (hg : GlP w) (hcb : Cb w b) (z0 : t0.size ≤ 100000) (z1 : t1.size ≤ 100000)
    (hSp : Calls Tryd.prog 25 #[.string s, .string (str1 58), .int .i64 3] w fun e w' => ∃ cap, e = .returned (.slice (some ⟨w.heap.size, 0, none⟩) 3 cap) ∧ w'.ownsRow w.heap.size 9 1 (.slice (some ⟨w.heap.size, 0, none⟩) 3 cap) 3 [.string t0, .string t1, .string t2] ∧ Below w.heap.size w w')
    (o1 : (pNs t0 0 23).isSome = true) (o2 : (pNs t1 0 59).isSome = false) :
    Calls Tryd.prog 30 #[.pointer (some ⟨b, 0, none⟩), .string s] w fun e w' => e = .returned (.bool false) ∧ ∃ c1 c2 c3, St w b 4 c1 c2 c3 w' := by
  have o1' : Hid ((pNs t0 0 23).isSome = true) := o1
  clear o1
  have o2' : Hid ((pNs t1 0 59).isSome = false) := o2
  clear o2
  obtain ⟨hb2, hcs, hfs⟩ := hcb
  obtain ⟨u1, k1⟩ := hcs 4 (by omega)
  obtain ⟨u2, k2⟩ := hcs 5 (by omega)
  obtain ⟨u3, k3⟩ := hcs 6 (by omega)
  have bl : b < w.heap.size := cell_lt k1
  go_enter Tryd.func30, Tryd.ntmps30
  go_wp2_with fail
  refine hSp.mono ?_
  rintro e w1 ⟨cap, rfl, hown, hbb⟩
  have cc := hown.cells (g := w.heap.size) rfl
  have hgb : w.heap.size ≤ w.heap.size := Nat.le_refl _
  clear hown
  have hg1 := hg.below hbb
  have q0 : w1.cell? ⟨w.heap.size, 0, none⟩ = some (.string t0) := cc 0 _ rfl
  have q1 : w1.cell? ⟨w.heap.size, 1, none⟩ = some (.string t1) := cc 1 _ rfl
  have q2 : w1.cell? ⟨w.heap.size, 2, none⟩ = some (.string t2) := cc 2 _ rfl
  have m1 := (hbb.cell (p := ⟨b, 4, none⟩) bl).trans k1
  have m2 := (hbb.cell (p := ⟨b, 5, none⟩) bl).trans k2
  have m3 := (hbb.cell (p := ⟨b, 6, none⟩) bl).trans k3
  have n1 := (hbb.frozen (p := ⟨b, 4, none⟩) bl).trans (hfs 4)
  have n2 := (hbb.frozen (p := ⟨b, 5, none⟩) bl).trans (hfs 5)
  have n3 := (hbb.frozen (p := ⟨b, 6, none⟩) bl).trans (hfs 6)
  have hne : w.heap.size ≠ b := by omega
  have hC := St.start 4 hbb bl
  clear cc hSp hg k1 k2 k3 bl hbb hcs hfs
  go_wp2_with fail
  have hC0 : QK w b w.heap.size t0 t1 t2 w1.drew := ⟨q0, q1, q2, hg1.below (Below.refl _ _).drew, ⟨_, m1⟩, ⟨_, m2⟩, ⟨_, m3⟩, n1, n2, n3, ⟨none, none, none, hC.drew⟩⟩
  clear q0 q1 q2 m1 m2 m3 n1 n2 n3 hg1 hC
  have hconst : ∀ p : Prop, (∀ w', QK w b w.heap.size t0 t1 t2 w' → p) = p := fun p => propext ⟨fun h => h _ hC0, fun h _ _ => h⟩
  have hC0' : Hid _ := hC0
  clear hC0
  refine region_WQ (C := QK w b w.heap.size t0 t1 t2) (by kernel_rfl) (by kernel_rfl) hC0'.out ?_
  iterate 5 (refine WQ_step (fun K hK => ?_); simp only [SQ_eq]; go_simp; refine hK _ ?_; clear hK K)
  refine WQ_step (fun K hK => ?_)
  simp only [SQ_eq]
  go_simp
  refine Exists.intro (Value.string t0) (And.intro (fun w' hw => (by have h := hw.q0; simp [h])) ?_)
  go_simp
  refine hK _ ?_
  clear hK K
  iterate 1 (refine WQ_step (fun K hK => ?_); simp only [SQ_eq]; go_simp; refine hK _ ?_; clear hK K)
  refine WQ_step (fun K hK => ?_)
  simp only [SQ_eq]
  go_simp
  refine Exists.intro (Value.agg #[.int .i64 0, .int .i64 23]) (And.intro (fun w' hw => (by have h := hw.gl.gl.lim 6 0 rfl; have h2 := hw.gl.gl.lim 7 23 rfl; simp [h, h2])) ?_)
  go_simp
  refine hK _ ?_
  clear hK K
  refine WQ_step (fun K hK => ?_)
  simp only [SQ_eq]
  go_simp
  refine Exists.intro (Value.bool true) (And.intro (fun w' hw => qk1 hb2 hne t0 0 23 true o1'.out z0 hw) ?_)
  go_simp
  refine hK _ ?_
  clear hK K
  iterate 6 (refine WQ_step (fun K hK => ?_); simp only [SQ_eq]; go_simp; refine hK _ ?_; clear hK K)
  refine WQ_step (fun K hK => ?_)
  simp only [SQ_eq]
  go_simp
  refine Exists.intro (Value.string t1) (And.intro (fun w' hw => (by have h := hw.q1; simp [h])) ?_)
  go_simp
  refine hK _ ?_
  clear hK K
  iterate 1 (refine WQ_step (fun K hK => ?_); simp only [SQ_eq]; go_simp; refine hK _ ?_; clear hK K)
  refine WQ_step (fun K hK => ?_)
  simp only [SQ_eq]
  go_simp
  refine Exists.intro (Value.agg #[.int .i64 0, .int .i64 59]) (And.intro (fun w' hw => (by have h := hw.gl.gl.lim 8 0 rfl; have h2 := hw.gl.gl.lim 9 59 rfl; simp [h, h2])) ?_)
  go_simp
  refine hK _ ?_
  clear hK K
  refine WQ_step (fun K hK => ?_)
  simp only [SQ_eq]
  go_simp
  refine Exists.intro (Value.bool false) (And.intro (fun w' hw => qk2 hb2 hne t1 0 59 false o2'.out z1 hw) ?_)
  go_simp
  refine hK _ ?_
  clear hK K
  iterate 13 (refine WQ_step (fun K hK => ?_); simp only [SQ_eq]; go_simp; refine hK _ ?_; clear hK K)
  refine WQ_nil ?_
  intro w' hw
  obtain ⟨c1, c2, c3, hC'⟩ := hw.st
  go_wp2_with fail
  go_ret
  exact ⟨rfl, c1, c2, c3, hC'⟩
end Go.Proofs.YteaaknbininehabDoor
