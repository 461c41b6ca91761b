/- The contract of package calendar's parseClock, of two texts, where the first list is none. -/
import Derived.Test.YteaaknbininehabDoorP8o
import Derived.Deep.AppendLies
import Derived.OwnWalk
namespace Go.Proofs.YteaaknbininehabDoor
open Go.RowKit
set_option maxRecDepth 100000 in
set_option maxHeartbeats 4000000 in
theorem clock21 (s t0 t1 : ByteArray) (b : Nat) (w : World) (hg : GlP w) (hcb : Cb w b) (z0 : t0.size ≤ 100000)
    (hSp : Calls Tryd.prog 25 #[.string s, .string (str1 58), .int .i64 3] w fun e w' => ∃ cap, e = .returned (.slice (some ⟨w.heap.size, 0, none⟩) 2 cap) ∧ w'.ownsRow w.heap.size 9 1 (.slice (some ⟨w.heap.size, 0, none⟩) 2 cap) 2 [.string t0, .string t1] ∧ Below w.heap.size w w')
    (o1 : (pNs t0 0 23).isSome = false) :
    Calls Tryd.prog 30 #[.pointer (some ⟨b, 0, none⟩), .string s] w fun e w' => e = .returned (.bool false) ∧ ∃ c1 c2 c3, St w b 4 c1 c2 c3 w' := by
  have o1' : Hid ((pNs t0 0 23).isSome = false) := o1
  clear o1
  obtain ⟨i0, hinf, hz0, hz1, hz2⟩ := info_parts infoS
  obtain ⟨t2, ht2⟩ : ∃ t2 : ByteArray, t2 = ⟨#[48, 48]⟩ := ⟨_, rfl⟩
  obtain ⟨hb2, hcs, hfs⟩ := hcb
  obtain ⟨u1, k1⟩ := hcs 4 (by omega)
  obtain ⟨u2, k2⟩ := hcs 5 (by omega)
  obtain ⟨u3, k3⟩ := hcs 6 (by omega)
  have bl : b < w.heap.size := cell_lt k1
  go_enter Tryd.func30, Tryd.ntmps30
  go_wp2_with fail
  refine hSp.mono ?_
  rintro e w1 ⟨cap, rfl, hown, hbb⟩
  have T2 : Hid (t2 = ⟨#[48, 48]⟩) := ht2
  clear ht2
  have hw1 := hbb.size
  go_wp2_with (at_builtin; refine wpList_append_own_at _ rfl _ _ 64 rfl w.heap.size 9 i0 (.string ⟨#[]⟩) 1 16 Tryd.underlying64 hinf hz0 hz1 hz2 rfl (by decide) _ 2 [.string t0, .string t1] rfl (hown.alloc _) ⟨_, 0, none⟩ 1 1 [.string ⟨#[48, 48]⟩] rfl rfl (World.news_of_block (cs := #[.string ⟨#[48, 48]⟩]) (t := 9) (fr := (0, 0)) (heap_alloc_new _ _)) (fun x hx => by simp at hx; subst hx; rfl) (by unfold maxLen; omega) (by omega) (by simp; omega) ?_; intro v' w3 hown' hgrow _ _; obtain ⟨g, cap', rfl⟩ := own3 hown')
  have hbb3 : Below w.heap.size w w3 := (hbb.alloc (by simpa using hw1) _).grown hgrow (by simp; omega) (fun k e => (hown.lt k e).1)
  have cc := hown'.cells (g := g) rfl
  have hgb : w.heap.size ≤ g := (hown'.lt g rfl).1
  rw [← T2.out] at cc
  clear hown hown' hgrow
  replace hbb := hbb3
  clear hbb3
  have hg1 := hg.below hbb
  have q0 : w3.cell? ⟨g, 0, none⟩ = some (.string t0) := cc 0 _ rfl
  have q1 : w3.cell? ⟨g, 1, none⟩ = some (.string t1) := cc 1 _ rfl
  have q2 : w3.cell? ⟨g, 2, none⟩ = some (.string t2) := cc 2 _ rfl
  have m1 := (hbb.cell (p := ⟨b, 4, none⟩) bl).trans k1
  have m2 := (hbb.cell (p := ⟨b, 5, none⟩) bl).trans k2
  have m3 := (hbb.cell (p := ⟨b, 6, none⟩) bl).trans k3
  have n1 := (hbb.frozen (p := ⟨b, 4, none⟩) bl).trans (hfs 4)
  have n2 := (hbb.frozen (p := ⟨b, 5, none⟩) bl).trans (hfs 5)
  have n3 := (hbb.frozen (p := ⟨b, 6, none⟩) bl).trans (hfs 6)
  have hne : g ≠ b := by omega
  have hC := St.start 4 hbb bl
  clear cc hSp hg k1 k2 k3 bl hbb hcs hfs
  have hC0 : QK w b g t0 t1 t2 w3.drew := ⟨q0, q1, q2, hg1.below (Below.refl _ _).drew, ⟨_, m1⟩, ⟨_, m2⟩, ⟨_, m3⟩, n1, n2, n3, ⟨none, none, none, hC.drew⟩⟩
  clear q0 q1 q2 m1 m2 m3 n1 n2 n3 hg1 hC
  have hconst : ∀ p : Prop, (∀ w', QK w b g t0 t1 t2 w' → p) = p := fun p => propext ⟨fun h => h _ hC0, fun h _ _ => h⟩
  have hC0' : Hid _ := hC0
  clear hC0
  refine region_WQ (C := QK w b g t0 t1 t2) (by kernel_rfl) (by kernel_rfl) hC0'.out ?_
  iterate 5 (refine WQ_step (fun K hK => ?_); simp only [SQ_eq]; go_simp; refine hK _ ?_; clear hK K)
  refine WQ_step (fun K hK => ?_)
  simp only [SQ_eq]
  go_simp
  refine Exists.intro (Value.string t0) (And.intro (fun w' hw => (by have h := hw.q0; simp [h])) ?_)
  go_simp
  refine hK _ ?_
  clear hK K
  iterate 1 (refine WQ_step (fun K hK => ?_); simp only [SQ_eq]; go_simp; refine hK _ ?_; clear hK K)
  refine WQ_step (fun K hK => ?_)
  simp only [SQ_eq]
  go_simp
  refine Exists.intro (Value.agg #[.int .i64 0, .int .i64 23]) (And.intro (fun w' hw => (by have h := hw.gl.gl.lim 6 0 rfl; have h2 := hw.gl.gl.lim 7 23 rfl; simp [h, h2])) ?_)
  go_simp
  refine hK _ ?_
  clear hK K
  refine WQ_step (fun K hK => ?_)
  simp only [SQ_eq]
  go_simp
  refine Exists.intro (Value.bool false) (And.intro (fun w' hw => qk1 hb2 hne t0 0 23 false o1'.out z0 hw) ?_)
  go_simp
  refine hK _ ?_
  clear hK K
  iterate 23 (refine WQ_step (fun K hK => ?_); simp only [SQ_eq]; go_simp; refine hK _ ?_; clear hK K)
  refine WQ_nil ?_
  intro w' hw
  obtain ⟨c1, c2, c3, hC'⟩ := hw.st
  go_wp2_with fail
  go_ret
  exact ⟨rfl, c1, c2, c3, hC'⟩
end Go.Proofs.YteaaknbininehabDoor
