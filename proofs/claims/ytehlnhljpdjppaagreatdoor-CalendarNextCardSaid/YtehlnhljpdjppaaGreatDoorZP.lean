import Derived.Test.YtehlnhljpdjppaaGreatDoorZO
import Derived.Test.YtehlnhljpdjppaaGreatDoorZE
import Derived.Test.YtehlnhljpdjppaaGreatDoorZH
/- Contracts of the reference's Weekday and date. -/
namespace Go.Proofs.YtehlnhljpdjppaaGreatDoor
open Go.RowKit
theorem rWeek_any (n : Int) (w : World) :
    Calls Tryz.prog 42 #[.int .i64 n] w fun e w' => e = .returned (.int .i64 (Civ.wd n)) ∧ w' = w := by
  go_enter Tryz.func42, Tryz.ntmps42
  go_wp2
  go_ret
  exact ⟨ret_int (week_r n), rfl⟩
structure QD (W y : World) : Prop where
  b : Below W.heap.size W y
/-- What date reads, in every world that has come since. -/
structure DC (b3 : Nat) (S : Nat → Sl) (c : Cal.C7) (y m d : Int) (W : World) : Prop where
  c0 : W.cell? ⟨b3, 0, none⟩ = some (slv (S 0))
  c1 : W.cell? ⟨b3, 1, none⟩ = some (slv (S 1))
  c2 : W.cell? ⟨b3, 2, none⟩ = some (slv (S 2))
  c3 : W.cell? ⟨b3, 3, none⟩ = some (slv (S 3))
  d0 : W.cell? ⟨b3 + 1, 0, none⟩ = some (.int .i64 y)
  d1 : W.cell? ⟨b3 + 1, 1, none⟩ = some (.int .i64 m)
  d2 : W.cell? ⟨b3 + 1, 2, none⟩ = some (.int .i64 d)
  p : CalPin (fun _ => False) W S c
theorem DC.next {b3 : Nat} {S : Nat → Sl} {c : Cal.C7} {y m d : Int} {W V : World} (h : DC b3 S c y m d W) (hb : Below W.heap.size W V) : DC b3 S c y m d V :=
  ⟨(hb.cell (cell_lt h.c0)).trans h.c0, (hb.cell (cell_lt h.c1)).trans h.c1, (hb.cell (cell_lt h.c2)).trans h.c2, (hb.cell (cell_lt h.c3)).trans h.c3, (hb.cell (cell_lt h.d0)).trans h.d0, (hb.cell (cell_lt h.d1)).trans h.d1, (hb.cell (cell_lt h.d2)).trans h.d2, h.p.below hb⟩
def dtB (c : Cal.C7) (y m d n : Int) : Bool := Cal.inL c.year y && (Cal.inL c.month m && (Cal.inL c.day d && Cal.onW c.week n))
set_option maxRecDepth 100000 in
set_option maxHeartbeats 4000000 in
theorem date_0 (S : Nat → Sl) (c : Cal.C7) (y m d n : Int) (w : World) (hp : CalPin (fun _ => False) w S c) (hok : CalOk c) (y0 : 0 ≤ y) (y1 : y ≤ 100000)
    (hIyear : Hid (Cal.inL c.year y = false)) :
    Calls Tryz.prog 19 #[aggC S, .agg #[.int .i64 y, .int .i64 m, .int .i64 d], .int .i64 n] w fun e w' => e = .returned (.bool false) ∧ Below w.heap.size w w' := by
  obtain ⟨W, hW⟩ : ∃ W, (w.alloc (.cells #[slv (S 0), slv (S 1), slv (S 2), slv (S 3), slv (S 4), slv (S 5), slv (S 6)] 24)).alloc (.cells #[.int .i64 y, .int .i64 m, .int .i64 d] 26) = W := ⟨_, rfl⟩
  have hB : Below w.heap.size w W := by rw [← hW]; exact ((Below.refl _ _).alloc (Nat.le_refl _) _).alloc (by simp) _
  have hk : ∀ j u, #[slv (S 0), slv (S 1), slv (S 2), slv (S 3), slv (S 4), slv (S 5), slv (S 6)][j]? = some u → W.cell? ⟨w.heap.size, j, none⟩ = some u := fun j u hj => by
    rw [← hW]; exact (((Below.refl _ _).alloc (Nat.le_refl _) _).cell (p := ⟨w.heap.size, j, none⟩) (by simp)).trans (cell_at rfl hj)
  have hd : ∀ j u, #[Value.int .i64 y, .int .i64 m, .int .i64 d][j]? = some u → W.cell? ⟨w.heap.size + 1, j, none⟩ = some u := fun j u hj => by rw [← hW]; exact cell_at (by simp) hj
  have hDC : Hid (DC w.heap.size S c y m d W) := ⟨hk 0 _ rfl, hk 1 _ rfl, hk 2 _ rfl, hk 3 _ rfl, hd 0 _ rfl, hd 1 _ rfl, hd 2 _ rfl, hp.below hB⟩
  obtain ⟨a0, cap0, hv0, _, _⟩ := hp.p0
  have hBH := hidI2 hB
  have hvH := hidI2 hv0
  clear hk hd hp hB hv0
  go_enter Tryz.func19, Tryz.ntmps19
  go_upto_region 1 with (rw [hW])
  have hC0 : Hid (QD W { W with drawn := W.drawn + 1 }) := QD.mk (Below.refl _ W).drew
  have hQ : Hid (∀ y', QD W y' → DC w.heap.size S c y m d y') := fun y' h => hDC.out.next h.b
  have hconst : ∀ p : Prop, (∀ w', QD W w' → p) = p := fun p => propext ⟨fun h => h _ hC0.out, fun h _ _ => h⟩
  refine region_WQ (C := QD W) (by kernel_rfl) (by kernel_rfl) hC0.out ?_
  iterate 1 (refine WQ_step (fun K hK => ?_); simp only [SQ_eq]; go_simp; refine hK _ ?_; clear hK K)
  refine WQ_step (fun K hK => ?_)
  simp only [SQ_eq]
  go_simp
  refine Exists.intro (slv (S 1)) (And.intro (fun w' hw => (by have h := (hQ.out w' hw).c1; simp [h])) ?_)
  go_simp
  refine hK _ ?_
  clear hK K
  iterate 1 (refine WQ_step (fun K hK => ?_); simp only [SQ_eq]; go_simp; refine hK _ ?_; clear hK K)
  refine WQ_step (fun K hK => ?_)
  simp only [SQ_eq]
  go_simp
  refine Exists.intro (Value.int .i64 y) (And.intro (fun w' hw => (by have h := (hQ.out w' hw).d0; simp [h])) ?_)
  go_simp
  refine hK _ ?_
  clear hK K
  refine WQ_step (fun K hK => ?_)
  simp only [SQ_eq]
  go_simp
  refine Exists.intro (Value.bool false) (And.intro (fun w' hw => (by have h := rIn_any c.year y _ w' (hQ.out w' hw).p.p1 hok.o1 y0 y1; rw [hIyear.out] at h; exact h.mono (fun e z h => ⟨h.1, ⟨hw.b.trans (h.2.mono hw.b.size)⟩⟩))) ?_)
  go_simp
  refine hK _ ?_
  clear hK K
  iterate 1 (refine WQ_step (fun K hK => ?_); simp only [SQ_eq]; go_simp; refine hK _ ?_; clear hK K)
  iterate 7 (refine WQ_step (fun K hK => ?_); simp only [SQ_eq]; go_simp; refine hK _ ?_; clear hK K)
  iterate 7 (refine WQ_step (fun K hK => ?_); simp only [SQ_eq]; go_simp; refine hK _ ?_; clear hK K)
  iterate 13 (refine WQ_step (fun K hK => ?_); simp only [SQ_eq]; go_simp; refine hK _ ?_; clear hK K)
  refine WQ_nil (fun w' hw' => ?_)
  have hfin : Hid (Below w.heap.size w w') := hBH.out.trans (hw'.b.mono hBH.out.size)
  go_wp2_with fail
  go_ret
  exact ⟨rfl, hfin.out⟩
set_option maxRecDepth 100000 in
set_option maxHeartbeats 4000000 in
theorem date_1 (S : Nat → Sl) (c : Cal.C7) (y m d n : Int) (w : World) (hp : CalPin (fun _ => False) w S c) (hok : CalOk c) (y0 : 0 ≤ y) (y1 : y ≤ 100000) (m0 : 0 ≤ m) (m1 : m ≤ 100000)
    (hIyear : Hid (Cal.inL c.year y = true)) (hImonth : Hid (Cal.inL c.month m = false)) :
    Calls Tryz.prog 19 #[aggC S, .agg #[.int .i64 y, .int .i64 m, .int .i64 d], .int .i64 n] w fun e w' => e = .returned (.bool false) ∧ Below w.heap.size w w' := by
  obtain ⟨W, hW⟩ : ∃ W, (w.alloc (.cells #[slv (S 0), slv (S 1), slv (S 2), slv (S 3), slv (S 4), slv (S 5), slv (S 6)] 24)).alloc (.cells #[.int .i64 y, .int .i64 m, .int .i64 d] 26) = W := ⟨_, rfl⟩
  have hB : Below w.heap.size w W := by rw [← hW]; exact ((Below.refl _ _).alloc (Nat.le_refl _) _).alloc (by simp) _
  have hk : ∀ j u, #[slv (S 0), slv (S 1), slv (S 2), slv (S 3), slv (S 4), slv (S 5), slv (S 6)][j]? = some u → W.cell? ⟨w.heap.size, j, none⟩ = some u := fun j u hj => by
    rw [← hW]; exact (((Below.refl _ _).alloc (Nat.le_refl _) _).cell (p := ⟨w.heap.size, j, none⟩) (by simp)).trans (cell_at rfl hj)
  have hd : ∀ j u, #[Value.int .i64 y, .int .i64 m, .int .i64 d][j]? = some u → W.cell? ⟨w.heap.size + 1, j, none⟩ = some u := fun j u hj => by rw [← hW]; exact cell_at (by simp) hj
  have hDC : Hid (DC w.heap.size S c y m d W) := ⟨hk 0 _ rfl, hk 1 _ rfl, hk 2 _ rfl, hk 3 _ rfl, hd 0 _ rfl, hd 1 _ rfl, hd 2 _ rfl, hp.below hB⟩
  obtain ⟨a0, cap0, hv0, _, _⟩ := hp.p0
  have hBH := hidI2 hB
  have hvH := hidI2 hv0
  clear hk hd hp hB hv0
  go_enter Tryz.func19, Tryz.ntmps19
  go_upto_region 1 with (rw [hW])
  have hC0 : Hid (QD W { W with drawn := W.drawn + 1 }) := QD.mk (Below.refl _ W).drew
  have hQ : Hid (∀ y', QD W y' → DC w.heap.size S c y m d y') := fun y' h => hDC.out.next h.b
  have hconst : ∀ p : Prop, (∀ w', QD W w' → p) = p := fun p => propext ⟨fun h => h _ hC0.out, fun h _ _ => h⟩
  refine region_WQ (C := QD W) (by kernel_rfl) (by kernel_rfl) hC0.out ?_
  iterate 1 (refine WQ_step (fun K hK => ?_); simp only [SQ_eq]; go_simp; refine hK _ ?_; clear hK K)
  refine WQ_step (fun K hK => ?_)
  simp only [SQ_eq]
  go_simp
  refine Exists.intro (slv (S 1)) (And.intro (fun w' hw => (by have h := (hQ.out w' hw).c1; simp [h])) ?_)
  go_simp
  refine hK _ ?_
  clear hK K
  iterate 1 (refine WQ_step (fun K hK => ?_); simp only [SQ_eq]; go_simp; refine hK _ ?_; clear hK K)
  refine WQ_step (fun K hK => ?_)
  simp only [SQ_eq]
  go_simp
  refine Exists.intro (Value.int .i64 y) (And.intro (fun w' hw => (by have h := (hQ.out w' hw).d0; simp [h])) ?_)
  go_simp
  refine hK _ ?_
  clear hK K
  refine WQ_step (fun K hK => ?_)
  simp only [SQ_eq]
  go_simp
  refine Exists.intro (Value.bool true) (And.intro (fun w' hw => (by have h := rIn_any c.year y _ w' (hQ.out w' hw).p.p1 hok.o1 y0 y1; rw [hIyear.out] at h; exact h.mono (fun e z h => ⟨h.1, ⟨hw.b.trans (h.2.mono hw.b.size)⟩⟩))) ?_)
  go_simp
  refine hK _ ?_
  clear hK K
  iterate 1 (refine WQ_step (fun K hK => ?_); simp only [SQ_eq]; go_simp; refine hK _ ?_; clear hK K)
  iterate 1 (refine WQ_step (fun K hK => ?_); simp only [SQ_eq]; go_simp; refine hK _ ?_; clear hK K)
  refine WQ_step (fun K hK => ?_)
  simp only [SQ_eq]
  go_simp
  refine Exists.intro (slv (S 2)) (And.intro (fun w' hw => (by have h := (hQ.out w' hw).c2; simp [h])) ?_)
  go_simp
  refine hK _ ?_
  clear hK K
  iterate 1 (refine WQ_step (fun K hK => ?_); simp only [SQ_eq]; go_simp; refine hK _ ?_; clear hK K)
  refine WQ_step (fun K hK => ?_)
  simp only [SQ_eq]
  go_simp
  refine Exists.intro (Value.int .i64 m) (And.intro (fun w' hw => (by have h := (hQ.out w' hw).d1; simp [h])) ?_)
  go_simp
  refine hK _ ?_
  clear hK K
  refine WQ_step (fun K hK => ?_)
  simp only [SQ_eq]
  go_simp
  refine Exists.intro (Value.bool false) (And.intro (fun w' hw => (by have h := rIn_any c.month m _ w' (hQ.out w' hw).p.p2 hok.o2 m0 m1; rw [hImonth.out] at h; exact h.mono (fun e z h => ⟨h.1, ⟨hw.b.trans (h.2.mono hw.b.size)⟩⟩))) ?_)
  go_simp
  refine hK _ ?_
  clear hK K
  iterate 2 (refine WQ_step (fun K hK => ?_); simp only [SQ_eq]; go_simp; refine hK _ ?_; clear hK K)
  iterate 7 (refine WQ_step (fun K hK => ?_); simp only [SQ_eq]; go_simp; refine hK _ ?_; clear hK K)
  iterate 13 (refine WQ_step (fun K hK => ?_); simp only [SQ_eq]; go_simp; refine hK _ ?_; clear hK K)
  refine WQ_nil (fun w' hw' => ?_)
  have hfin : Hid (Below w.heap.size w w') := hBH.out.trans (hw'.b.mono hBH.out.size)
  go_wp2_with fail
  go_ret
  exact ⟨rfl, hfin.out⟩
set_option maxRecDepth 100000 in
set_option maxHeartbeats 4000000 in
theorem date_2 (S : Nat → Sl) (c : Cal.C7) (y m d n : Int) (w : World) (hp : CalPin (fun _ => False) w S c) (hok : CalOk c) (y0 : 0 ≤ y) (y1 : y ≤ 100000) (m0 : 0 ≤ m) (m1 : m ≤ 100000) (d0 : 0 ≤ d) (d1 : d ≤ 100000)
    (hIyear : Hid (Cal.inL c.year y = true)) (hImonth : Hid (Cal.inL c.month m = true)) (hIday : Hid (Cal.inL c.day d = false)) :
    Calls Tryz.prog 19 #[aggC S, .agg #[.int .i64 y, .int .i64 m, .int .i64 d], .int .i64 n] w fun e w' => e = .returned (.bool false) ∧ Below w.heap.size w w' := by
  obtain ⟨W, hW⟩ : ∃ W, (w.alloc (.cells #[slv (S 0), slv (S 1), slv (S 2), slv (S 3), slv (S 4), slv (S 5), slv (S 6)] 24)).alloc (.cells #[.int .i64 y, .int .i64 m, .int .i64 d] 26) = W := ⟨_, rfl⟩
  have hB : Below w.heap.size w W := by rw [← hW]; exact ((Below.refl _ _).alloc (Nat.le_refl _) _).alloc (by simp) _
  have hk : ∀ j u, #[slv (S 0), slv (S 1), slv (S 2), slv (S 3), slv (S 4), slv (S 5), slv (S 6)][j]? = some u → W.cell? ⟨w.heap.size, j, none⟩ = some u := fun j u hj => by
    rw [← hW]; exact (((Below.refl _ _).alloc (Nat.le_refl _) _).cell (p := ⟨w.heap.size, j, none⟩) (by simp)).trans (cell_at rfl hj)
  have hd : ∀ j u, #[Value.int .i64 y, .int .i64 m, .int .i64 d][j]? = some u → W.cell? ⟨w.heap.size + 1, j, none⟩ = some u := fun j u hj => by rw [← hW]; exact cell_at (by simp) hj
  have hDC : Hid (DC w.heap.size S c y m d W) := ⟨hk 0 _ rfl, hk 1 _ rfl, hk 2 _ rfl, hk 3 _ rfl, hd 0 _ rfl, hd 1 _ rfl, hd 2 _ rfl, hp.below hB⟩
  obtain ⟨a0, cap0, hv0, _, _⟩ := hp.p0
  have hBH := hidI2 hB
  have hvH := hidI2 hv0
  clear hk hd hp hB hv0
  go_enter Tryz.func19, Tryz.ntmps19
  go_upto_region 1 with (rw [hW])
  have hC0 : Hid (QD W { W with drawn := W.drawn + 1 }) := QD.mk (Below.refl _ W).drew
  have hQ : Hid (∀ y', QD W y' → DC w.heap.size S c y m d y') := fun y' h => hDC.out.next h.b
  have hconst : ∀ p : Prop, (∀ w', QD W w' → p) = p := fun p => propext ⟨fun h => h _ hC0.out, fun h _ _ => h⟩
  refine region_WQ (C := QD W) (by kernel_rfl) (by kernel_rfl) hC0.out ?_
  iterate 1 (refine WQ_step (fun K hK => ?_); simp only [SQ_eq]; go_simp; refine hK _ ?_; clear hK K)
  refine WQ_step (fun K hK => ?_)
  simp only [SQ_eq]
  go_simp
  refine Exists.intro (slv (S 1)) (And.intro (fun w' hw => (by have h := (hQ.out w' hw).c1; simp [h])) ?_)
  go_simp
  refine hK _ ?_
  clear hK K
  iterate 1 (refine WQ_step (fun K hK => ?_); simp only [SQ_eq]; go_simp; refine hK _ ?_; clear hK K)
  refine WQ_step (fun K hK => ?_)
  simp only [SQ_eq]
  go_simp
  refine Exists.intro (Value.int .i64 y) (And.intro (fun w' hw => (by have h := (hQ.out w' hw).d0; simp [h])) ?_)
  go_simp
  refine hK _ ?_
  clear hK K
  refine WQ_step (fun K hK => ?_)
  simp only [SQ_eq]
  go_simp
  refine Exists.intro (Value.bool true) (And.intro (fun w' hw => (by have h := rIn_any c.year y _ w' (hQ.out w' hw).p.p1 hok.o1 y0 y1; rw [hIyear.out] at h; exact h.mono (fun e z h => ⟨h.1, ⟨hw.b.trans (h.2.mono hw.b.size)⟩⟩))) ?_)
  go_simp
  refine hK _ ?_
  clear hK K
  iterate 1 (refine WQ_step (fun K hK => ?_); simp only [SQ_eq]; go_simp; refine hK _ ?_; clear hK K)
  iterate 1 (refine WQ_step (fun K hK => ?_); simp only [SQ_eq]; go_simp; refine hK _ ?_; clear hK K)
  refine WQ_step (fun K hK => ?_)
  simp only [SQ_eq]
  go_simp
  refine Exists.intro (slv (S 2)) (And.intro (fun w' hw => (by have h := (hQ.out w' hw).c2; simp [h])) ?_)
  go_simp
  refine hK _ ?_
  clear hK K
  iterate 1 (refine WQ_step (fun K hK => ?_); simp only [SQ_eq]; go_simp; refine hK _ ?_; clear hK K)
  refine WQ_step (fun K hK => ?_)
  simp only [SQ_eq]
  go_simp
  refine Exists.intro (Value.int .i64 m) (And.intro (fun w' hw => (by have h := (hQ.out w' hw).d1; simp [h])) ?_)
  go_simp
  refine hK _ ?_
  clear hK K
  refine WQ_step (fun K hK => ?_)
  simp only [SQ_eq]
  go_simp
  refine Exists.intro (Value.bool true) (And.intro (fun w' hw => (by have h := rIn_any c.month m _ w' (hQ.out w' hw).p.p2 hok.o2 m0 m1; rw [hImonth.out] at h; exact h.mono (fun e z h => ⟨h.1, ⟨hw.b.trans (h.2.mono hw.b.size)⟩⟩))) ?_)
  go_simp
  refine hK _ ?_
  clear hK K
  iterate 2 (refine WQ_step (fun K hK => ?_); simp only [SQ_eq]; go_simp; refine hK _ ?_; clear hK K)
  iterate 1 (refine WQ_step (fun K hK => ?_); simp only [SQ_eq]; go_simp; refine hK _ ?_; clear hK K)
  refine WQ_step (fun K hK => ?_)
  simp only [SQ_eq]
  go_simp
  refine Exists.intro (slv (S 3)) (And.intro (fun w' hw => (by have h := (hQ.out w' hw).c3; simp [h])) ?_)
  go_simp
  refine hK _ ?_
  clear hK K
  iterate 1 (refine WQ_step (fun K hK => ?_); simp only [SQ_eq]; go_simp; refine hK _ ?_; clear hK K)
  refine WQ_step (fun K hK => ?_)
  simp only [SQ_eq]
  go_simp
  refine Exists.intro (Value.int .i64 d) (And.intro (fun w' hw => (by have h := (hQ.out w' hw).d2; simp [h])) ?_)
  go_simp
  refine hK _ ?_
  clear hK K
  refine WQ_step (fun K hK => ?_)
  simp only [SQ_eq]
  go_simp
  refine Exists.intro (Value.bool false) (And.intro (fun w' hw => (by have h := rIn_any c.day d _ w' (hQ.out w' hw).p.p3 hok.o3 d0 d1; rw [hIday.out] at h; exact h.mono (fun e z h => ⟨h.1, ⟨hw.b.trans (h.2.mono hw.b.size)⟩⟩))) ?_)
  go_simp
  refine hK _ ?_
  clear hK K
  iterate 2 (refine WQ_step (fun K hK => ?_); simp only [SQ_eq]; go_simp; refine hK _ ?_; clear hK K)
  iterate 13 (refine WQ_step (fun K hK => ?_); simp only [SQ_eq]; go_simp; refine hK _ ?_; clear hK K)
  refine WQ_nil (fun w' hw' => ?_)
  have hfin : Hid (Below w.heap.size w w') := hBH.out.trans (hw'.b.mono hBH.out.size)
  go_wp2_with fail
  go_ret
  exact ⟨rfl, hfin.out⟩
set_option maxRecDepth 100000 in
set_option maxHeartbeats 4000000 in
theorem date_3 (S : Nat → Sl) (c : Cal.C7) (y m d n : Int) (w : World) (hp : CalPin (fun _ => False) w S c) (hok : CalOk c) (y0 : 0 ≤ y) (y1 : y ≤ 100000) (m0 : 0 ≤ m) (m1 : m ≤ 100000) (d0 : 0 ≤ d) (d1 : d ≤ 100000)
    (hIyear : Hid (Cal.inL c.year y = true)) (hImonth : Hid (Cal.inL c.month m = true)) (hIday : Hid (Cal.inL c.day d = true)) (hw0 : c.week = []) :
    Calls Tryz.prog 19 #[aggC S, .agg #[.int .i64 y, .int .i64 m, .int .i64 d], .int .i64 n] w fun e w' => e = .returned (.bool true) ∧ Below w.heap.size w w' := by
  obtain ⟨W, hW⟩ : ∃ W, (w.alloc (.cells #[slv (S 0), slv (S 1), slv (S 2), slv (S 3), slv (S 4), slv (S 5), slv (S 6)] 24)).alloc (.cells #[.int .i64 y, .int .i64 m, .int .i64 d] 26) = W := ⟨_, rfl⟩
  have hB : Below w.heap.size w W := by rw [← hW]; exact ((Below.refl _ _).alloc (Nat.le_refl _) _).alloc (by simp) _
  have hk : ∀ j u, #[slv (S 0), slv (S 1), slv (S 2), slv (S 3), slv (S 4), slv (S 5), slv (S 6)][j]? = some u → W.cell? ⟨w.heap.size, j, none⟩ = some u := fun j u hj => by
    rw [← hW]; exact (((Below.refl _ _).alloc (Nat.le_refl _) _).cell (p := ⟨w.heap.size, j, none⟩) (by simp)).trans (cell_at rfl hj)
  have hd : ∀ j u, #[Value.int .i64 y, .int .i64 m, .int .i64 d][j]? = some u → W.cell? ⟨w.heap.size + 1, j, none⟩ = some u := fun j u hj => by rw [← hW]; exact cell_at (by simp) hj
  have hDC : Hid (DC w.heap.size S c y m d W) := ⟨hk 0 _ rfl, hk 1 _ rfl, hk 2 _ rfl, hk 3 _ rfl, hd 0 _ rfl, hd 1 _ rfl, hd 2 _ rfl, hp.below hB⟩
  obtain ⟨a0, cap0, hv0, _, _⟩ := hp.p0
  rw [hw0] at hv0
  simp only [List.length_nil] at hv0
  have hBH := hidI2 hB
  have hvH := hidI2 hv0
  clear hk hd hp hB hv0
  go_enter Tryz.func19, Tryz.ntmps19
  go_upto_region 1 with (rw [hW])
  have hC0 : Hid (QD W { W with drawn := W.drawn + 1 }) := QD.mk (Below.refl _ W).drew
  have hQ : Hid (∀ y', QD W y' → DC w.heap.size S c y m d y') := fun y' h => hDC.out.next h.b
  have hconst : ∀ p : Prop, (∀ w', QD W w' → p) = p := fun p => propext ⟨fun h => h _ hC0.out, fun h _ _ => h⟩
  refine region_WQ (C := QD W) (by kernel_rfl) (by kernel_rfl) hC0.out ?_
  iterate 1 (refine WQ_step (fun K hK => ?_); simp only [SQ_eq]; go_simp; refine hK _ ?_; clear hK K)
  refine WQ_step (fun K hK => ?_)
  simp only [SQ_eq]
  go_simp
  refine Exists.intro (slv (S 1)) (And.intro (fun w' hw => (by have h := (hQ.out w' hw).c1; simp [h])) ?_)
  go_simp
  refine hK _ ?_
  clear hK K
  iterate 1 (refine WQ_step (fun K hK => ?_); simp only [SQ_eq]; go_simp; refine hK _ ?_; clear hK K)
  refine WQ_step (fun K hK => ?_)
  simp only [SQ_eq]
  go_simp
  refine Exists.intro (Value.int .i64 y) (And.intro (fun w' hw => (by have h := (hQ.out w' hw).d0; simp [h])) ?_)
  go_simp
  refine hK _ ?_
  clear hK K
  refine WQ_step (fun K hK => ?_)
  simp only [SQ_eq]
  go_simp
  refine Exists.intro (Value.bool true) (And.intro (fun w' hw => (by have h := rIn_any c.year y _ w' (hQ.out w' hw).p.p1 hok.o1 y0 y1; rw [hIyear.out] at h; exact h.mono (fun e z h => ⟨h.1, ⟨hw.b.trans (h.2.mono hw.b.size)⟩⟩))) ?_)
  go_simp
  refine hK _ ?_
  clear hK K
  iterate 1 (refine WQ_step (fun K hK => ?_); simp only [SQ_eq]; go_simp; refine hK _ ?_; clear hK K)
  iterate 1 (refine WQ_step (fun K hK => ?_); simp only [SQ_eq]; go_simp; refine hK _ ?_; clear hK K)
  refine WQ_step (fun K hK => ?_)
  simp only [SQ_eq]
  go_simp
  refine Exists.intro (slv (S 2)) (And.intro (fun w' hw => (by have h := (hQ.out w' hw).c2; simp [h])) ?_)
  go_simp
  refine hK _ ?_
  clear hK K
  iterate 1 (refine WQ_step (fun K hK => ?_); simp only [SQ_eq]; go_simp; refine hK _ ?_; clear hK K)
  refine WQ_step (fun K hK => ?_)
  simp only [SQ_eq]
  go_simp
  refine Exists.intro (Value.int .i64 m) (And.intro (fun w' hw => (by have h := (hQ.out w' hw).d1; simp [h])) ?_)
  go_simp
  refine hK _ ?_
  clear hK K
  refine WQ_step (fun K hK => ?_)
  simp only [SQ_eq]
  go_simp
  refine Exists.intro (Value.bool true) (And.intro (fun w' hw => (by have h := rIn_any c.month m _ w' (hQ.out w' hw).p.p2 hok.o2 m0 m1; rw [hImonth.out] at h; exact h.mono (fun e z h => ⟨h.1, ⟨hw.b.trans (h.2.mono hw.b.size)⟩⟩))) ?_)
  go_simp
  refine hK _ ?_
  clear hK K
  iterate 2 (refine WQ_step (fun K hK => ?_); simp only [SQ_eq]; go_simp; refine hK _ ?_; clear hK K)
  iterate 1 (refine WQ_step (fun K hK => ?_); simp only [SQ_eq]; go_simp; refine hK _ ?_; clear hK K)
  refine WQ_step (fun K hK => ?_)
  simp only [SQ_eq]
  go_simp
  refine Exists.intro (slv (S 3)) (And.intro (fun w' hw => (by have h := (hQ.out w' hw).c3; simp [h])) ?_)
  go_simp
  refine hK _ ?_
  clear hK K
  iterate 1 (refine WQ_step (fun K hK => ?_); simp only [SQ_eq]; go_simp; refine hK _ ?_; clear hK K)
  refine WQ_step (fun K hK => ?_)
  simp only [SQ_eq]
  go_simp
  refine Exists.intro (Value.int .i64 d) (And.intro (fun w' hw => (by have h := (hQ.out w' hw).d2; simp [h])) ?_)
  go_simp
  refine hK _ ?_
  clear hK K
  refine WQ_step (fun K hK => ?_)
  simp only [SQ_eq]
  go_simp
  refine Exists.intro (Value.bool true) (And.intro (fun w' hw => (by have h := rIn_any c.day d _ w' (hQ.out w' hw).p.p3 hok.o3 d0 d1; rw [hIday.out] at h; exact h.mono (fun e z h => ⟨h.1, ⟨hw.b.trans (h.2.mono hw.b.size)⟩⟩))) ?_)
  go_simp
  refine hK _ ?_
  clear hK K
  iterate 2 (refine WQ_step (fun K hK => ?_); simp only [SQ_eq]; go_simp; refine hK _ ?_; clear hK K)
  iterate 1 (refine WQ_step (fun K hK => ?_); simp only [SQ_eq]; go_simp; refine hK _ ?_; clear hK K)
  refine WQ_step (fun K hK => ?_)
  simp only [SQ_eq]
  go_simp
  refine Exists.intro (Value.slice a0 0 cap0) (And.intro (fun w' hw => (by have h := (hQ.out w' hw).c0; rw [hvH.out] at h; simp [h])) ?_)
  go_simp
  refine hK _ ?_
  clear hK K
  iterate 3 (refine WQ_step (fun K hK => ?_); simp only [SQ_eq]; go_simp; refine hK _ ?_; clear hK K)
  iterate 5 (refine WQ_step (fun K hK => ?_); simp only [SQ_eq]; go_simp; refine hK _ ?_; clear hK K)
  iterate 3 (refine WQ_step (fun K hK => ?_); simp only [SQ_eq]; go_simp; refine hK _ ?_; clear hK K)
  refine WQ_nil (fun w' hw' => ?_)
  have hfin : Hid (Below w.heap.size w w') := hBH.out.trans (hw'.b.mono hBH.out.size)
  go_wp2_with fail
  go_ret
  exact ⟨rfl, hfin.out⟩
set_option maxRecDepth 100000 in
set_option maxHeartbeats 4000000 in
theorem date_4 (S : Nat → Sl) (c : Cal.C7) (y m d n : Int) (w : World) (hp : CalPin (fun _ => False) w S c) (hok : CalOk c) (y0 : 0 ≤ y) (y1 : y ≤ 100000) (m0 : 0 ≤ m) (m1 : m ≤ 100000) (d0 : 0 ≤ d) (d1 : d ≤ 100000)
    (hIyear : Hid (Cal.inL c.year y = true)) (hImonth : Hid (Cal.inL c.month m = true)) (hIday : Hid (Cal.inL c.day d = true)) (hwn : c.week ≠ []) (hIweek : Hid (Cal.inL c.week (Civ.wd n) = false)) :
    Calls Tryz.prog 19 #[aggC S, .agg #[.int .i64 y, .int .i64 m, .int .i64 d], .int .i64 n] w fun e w' => e = .returned (.bool false) ∧ Below w.heap.size w w' := by
  obtain ⟨W, hW⟩ : ∃ W, (w.alloc (.cells #[slv (S 0), slv (S 1), slv (S 2), slv (S 3), slv (S 4), slv (S 5), slv (S 6)] 24)).alloc (.cells #[.int .i64 y, .int .i64 m, .int .i64 d] 26) = W := ⟨_, rfl⟩
  have hB : Below w.heap.size w W := by rw [← hW]; exact ((Below.refl _ _).alloc (Nat.le_refl _) _).alloc (by simp) _
  have hk : ∀ j u, #[slv (S 0), slv (S 1), slv (S 2), slv (S 3), slv (S 4), slv (S 5), slv (S 6)][j]? = some u → W.cell? ⟨w.heap.size, j, none⟩ = some u := fun j u hj => by
    rw [← hW]; exact (((Below.refl _ _).alloc (Nat.le_refl _) _).cell (p := ⟨w.heap.size, j, none⟩) (by simp)).trans (cell_at rfl hj)
  have hd : ∀ j u, #[Value.int .i64 y, .int .i64 m, .int .i64 d][j]? = some u → W.cell? ⟨w.heap.size + 1, j, none⟩ = some u := fun j u hj => by rw [← hW]; exact cell_at (by simp) hj
  have hDC : Hid (DC w.heap.size S c y m d W) := ⟨hk 0 _ rfl, hk 1 _ rfl, hk 2 _ rfl, hk 3 _ rfl, hd 0 _ rfl, hd 1 _ rfl, hd 2 _ rfl, hp.below hB⟩
  obtain ⟨a0, cap0, hv0, hlw, _⟩ := hp.p0
  obtain ⟨N, hN⟩ : ∃ N, c.week.length = N := ⟨_, rfl⟩
  have hN0 : N ≠ 0 := fun e => hwn (List.eq_nil_of_length_eq_zero (by rw [hN, e]))
  have hNb : ((N : Int) == 0) = false := by simp; omega
  rw [hN] at hv0
  have hwd := Civ.wd_bd n
  have hBH := hidI2 hB
  have hvH := hidI2 hv0
  clear hk hd hp hB hv0
  go_enter Tryz.func19, Tryz.ntmps19
  go_upto_region 1 with (rw [hW])
  have hC0 : Hid (QD W { W with drawn := W.drawn + 1 }) := QD.mk (Below.refl _ W).drew
  have hQ : Hid (∀ y', QD W y' → DC w.heap.size S c y m d y') := fun y' h => hDC.out.next h.b
  have hconst : ∀ p : Prop, (∀ w', QD W w' → p) = p := fun p => propext ⟨fun h => h _ hC0.out, fun h _ _ => h⟩
  refine region_WQ (C := QD W) (by kernel_rfl) (by kernel_rfl) hC0.out ?_
  iterate 1 (refine WQ_step (fun K hK => ?_); simp only [SQ_eq]; go_simp; refine hK _ ?_; clear hK K)
  refine WQ_step (fun K hK => ?_)
  simp only [SQ_eq]
  go_simp
  refine Exists.intro (slv (S 1)) (And.intro (fun w' hw => (by have h := (hQ.out w' hw).c1; simp [h])) ?_)
  go_simp
  refine hK _ ?_
  clear hK K
  iterate 1 (refine WQ_step (fun K hK => ?_); simp only [SQ_eq]; go_simp; refine hK _ ?_; clear hK K)
  refine WQ_step (fun K hK => ?_)
  simp only [SQ_eq]
  go_simp
  refine Exists.intro (Value.int .i64 y) (And.intro (fun w' hw => (by have h := (hQ.out w' hw).d0; simp [h])) ?_)
  go_simp
  refine hK _ ?_
  clear hK K
  refine WQ_step (fun K hK => ?_)
  simp only [SQ_eq]
  go_simp
  refine Exists.intro (Value.bool true) (And.intro (fun w' hw => (by have h := rIn_any c.year y _ w' (hQ.out w' hw).p.p1 hok.o1 y0 y1; rw [hIyear.out] at h; exact h.mono (fun e z h => ⟨h.1, ⟨hw.b.trans (h.2.mono hw.b.size)⟩⟩))) ?_)
  go_simp
  refine hK _ ?_
  clear hK K
  iterate 1 (refine WQ_step (fun K hK => ?_); simp only [SQ_eq]; go_simp; refine hK _ ?_; clear hK K)
  iterate 1 (refine WQ_step (fun K hK => ?_); simp only [SQ_eq]; go_simp; refine hK _ ?_; clear hK K)
  refine WQ_step (fun K hK => ?_)
  simp only [SQ_eq]
  go_simp
  refine Exists.intro (slv (S 2)) (And.intro (fun w' hw => (by have h := (hQ.out w' hw).c2; simp [h])) ?_)
  go_simp
  refine hK _ ?_
  clear hK K
  iterate 1 (refine WQ_step (fun K hK => ?_); simp only [SQ_eq]; go_simp; refine hK _ ?_; clear hK K)
  refine WQ_step (fun K hK => ?_)
  simp only [SQ_eq]
  go_simp
  refine Exists.intro (Value.int .i64 m) (And.intro (fun w' hw => (by have h := (hQ.out w' hw).d1; simp [h])) ?_)
  go_simp
  refine hK _ ?_
  clear hK K
  refine WQ_step (fun K hK => ?_)
  simp only [SQ_eq]
  go_simp
  refine Exists.intro (Value.bool true) (And.intro (fun w' hw => (by have h := rIn_any c.month m _ w' (hQ.out w' hw).p.p2 hok.o2 m0 m1; rw [hImonth.out] at h; exact h.mono (fun e z h => ⟨h.1, ⟨hw.b.trans (h.2.mono hw.b.size)⟩⟩))) ?_)
  go_simp
  refine hK _ ?_
  clear hK K
  iterate 2 (refine WQ_step (fun K hK => ?_); simp only [SQ_eq]; go_simp; refine hK _ ?_; clear hK K)
  iterate 1 (refine WQ_step (fun K hK => ?_); simp only [SQ_eq]; go_simp; refine hK _ ?_; clear hK K)
  refine WQ_step (fun K hK => ?_)
  simp only [SQ_eq]
  go_simp
  refine Exists.intro (slv (S 3)) (And.intro (fun w' hw => (by have h := (hQ.out w' hw).c3; simp [h])) ?_)
  go_simp
  refine hK _ ?_
  clear hK K
  iterate 1 (refine WQ_step (fun K hK => ?_); simp only [SQ_eq]; go_simp; refine hK _ ?_; clear hK K)
  refine WQ_step (fun K hK => ?_)
  simp only [SQ_eq]
  go_simp
  refine Exists.intro (Value.int .i64 d) (And.intro (fun w' hw => (by have h := (hQ.out w' hw).d2; simp [h])) ?_)
  go_simp
  refine hK _ ?_
  clear hK K
  refine WQ_step (fun K hK => ?_)
  simp only [SQ_eq]
  go_simp
  refine Exists.intro (Value.bool true) (And.intro (fun w' hw => (by have h := rIn_any c.day d _ w' (hQ.out w' hw).p.p3 hok.o3 d0 d1; rw [hIday.out] at h; exact h.mono (fun e z h => ⟨h.1, ⟨hw.b.trans (h.2.mono hw.b.size)⟩⟩))) ?_)
  go_simp
  refine hK _ ?_
  clear hK K
  iterate 2 (refine WQ_step (fun K hK => ?_); simp only [SQ_eq]; go_simp; refine hK _ ?_; clear hK K)
  iterate 1 (refine WQ_step (fun K hK => ?_); simp only [SQ_eq]; go_simp; refine hK _ ?_; clear hK K)
  refine WQ_step (fun K hK => ?_)
  simp only [SQ_eq]
  go_simp
  refine Exists.intro (Value.slice a0 N cap0) (And.intro (fun w' hw => (by have h := (hQ.out w' hw).c0; rw [hvH.out] at h; simp [h])) ?_)
  go_simp
  refine hK _ ?_
  clear hK K
  iterate 3 (refine WQ_step (fun K hK => ?_); simp only [SQ_eq]; go_simp; refine hK _ ?_; clear hK K)
  iterate 1 (refine WQ_step (fun K hK => ?_); simp only [SQ_eq]; go_simp; refine hK _ ?_; clear hK K)
  refine WQ_step (fun K hK => ?_)
  simp only [SQ_eq]
  go_simp
  refine Exists.intro (Value.slice a0 N cap0) (And.intro (fun w' hw => (by have h := (hQ.out w' hw).c0; rw [hvH.out] at h; simp [h])) ?_)
  go_simp
  refine hK _ ?_
  clear hK K
  iterate 1 (refine WQ_step (fun K hK => ?_); simp only [SQ_eq]; go_simp; refine hK _ ?_; clear hK K)
  refine WQ_step (fun K hK => ?_)
  simp only [SQ_eq]
  go_simp
  refine Exists.intro (Value.int .i64 (Civ.wd n)) (And.intro (fun w' hw => ((rWeek_any n w').mono (fun e z h => ⟨h.1, by rw [h.2]; exact hw⟩))) ?_)
  go_simp
  refine hK _ ?_
  clear hK K
  refine WQ_step (fun K hK => ?_)
  simp only [SQ_eq]
  go_simp
  refine Exists.intro (Value.bool false) (And.intro (fun w' hw => (by have h := rIn_any c.week (Civ.wd n) _ w' (hQ.out w' hw).p.p0 hok.o0 (by omega) (by omega); rw [hvH.out, hIweek.out] at h; exact h.mono (fun e z h => ⟨h.1, ⟨hw.b.trans (h.2.mono hw.b.size)⟩⟩))) ?_)
  go_simp
  refine hK _ ?_
  clear hK K
  iterate 3 (refine WQ_step (fun K hK => ?_); simp only [SQ_eq]; go_simp; refine hK _ ?_; clear hK K)
  refine WQ_nil (fun w' hw' => ?_)
  have hfin : Hid (Below w.heap.size w w') := hBH.out.trans (hw'.b.mono hBH.out.size)
  go_wp2_with fail
  go_ret
  exact ⟨rfl, hfin.out⟩
set_option maxRecDepth 100000 in
set_option maxHeartbeats 4000000 in
theorem date_5 (S : Nat → Sl) (c : Cal.C7) (y m d n : Int) (w : World) (hp : CalPin (fun _ => False) w S c) (hok : CalOk c) (y0 : 0 ≤ y) (y1 : y ≤ 100000) (m0 : 0 ≤ m) (m1 : m ≤ 100000) (d0 : 0 ≤ d) (d1 : d ≤ 100000)
    (hIyear : Hid (Cal.inL c.year y = true)) (hImonth : Hid (Cal.inL c.month m = true)) (hIday : Hid (Cal.inL c.day d = true)) (hwn : c.week ≠ []) (hIweek : Hid (Cal.inL c.week (Civ.wd n) = true)) :
    Calls Tryz.prog 19 #[aggC S, .agg #[.int .i64 y, .int .i64 m, .int .i64 d], .int .i64 n] w fun e w' => e = .returned (.bool true) ∧ Below w.heap.size w w' := by
  obtain ⟨W, hW⟩ : ∃ W, (w.alloc (.cells #[slv (S 0), slv (S 1), slv (S 2), slv (S 3), slv (S 4), slv (S 5), slv (S 6)] 24)).alloc (.cells #[.int .i64 y, .int .i64 m, .int .i64 d] 26) = W := ⟨_, rfl⟩
  have hB : Below w.heap.size w W := by rw [← hW]; exact ((Below.refl _ _).alloc (Nat.le_refl _) _).alloc (by simp) _
  have hk : ∀ j u, #[slv (S 0), slv (S 1), slv (S 2), slv (S 3), slv (S 4), slv (S 5), slv (S 6)][j]? = some u → W.cell? ⟨w.heap.size, j, none⟩ = some u := fun j u hj => by
    rw [← hW]; exact (((Below.refl _ _).alloc (Nat.le_refl _) _).cell (p := ⟨w.heap.size, j, none⟩) (by simp)).trans (cell_at rfl hj)
  have hd : ∀ j u, #[Value.int .i64 y, .int .i64 m, .int .i64 d][j]? = some u → W.cell? ⟨w.heap.size + 1, j, none⟩ = some u := fun j u hj => by rw [← hW]; exact cell_at (by simp) hj
  have hDC : Hid (DC w.heap.size S c y m d W) := ⟨hk 0 _ rfl, hk 1 _ rfl, hk 2 _ rfl, hk 3 _ rfl, hd 0 _ rfl, hd 1 _ rfl, hd 2 _ rfl, hp.below hB⟩
  obtain ⟨a0, cap0, hv0, hlw, _⟩ := hp.p0
  obtain ⟨N, hN⟩ : ∃ N, c.week.length = N := ⟨_, rfl⟩
  have hN0 : N ≠ 0 := fun e => hwn (List.eq_nil_of_length_eq_zero (by rw [hN, e]))
  have hNb : ((N : Int) == 0) = false := by simp; omega
  rw [hN] at hv0
  have hwd := Civ.wd_bd n
  have hBH := hidI2 hB
  have hvH := hidI2 hv0
  clear hk hd hp hB hv0
  go_enter Tryz.func19, Tryz.ntmps19
  go_upto_region 1 with (rw [hW])
  have hC0 : Hid (QD W { W with drawn := W.drawn + 1 }) := QD.mk (Below.refl _ W).drew
  have hQ : Hid (∀ y', QD W y' → DC w.heap.size S c y m d y') := fun y' h => hDC.out.next h.b
  have hconst : ∀ p : Prop, (∀ w', QD W w' → p) = p := fun p => propext ⟨fun h => h _ hC0.out, fun h _ _ => h⟩
  refine region_WQ (C := QD W) (by kernel_rfl) (by kernel_rfl) hC0.out ?_
  iterate 1 (refine WQ_step (fun K hK => ?_); simp only [SQ_eq]; go_simp; refine hK _ ?_; clear hK K)
  refine WQ_step (fun K hK => ?_)
  simp only [SQ_eq]
  go_simp
  refine Exists.intro (slv (S 1)) (And.intro (fun w' hw => (by have h := (hQ.out w' hw).c1; simp [h])) ?_)
  go_simp
  refine hK _ ?_
  clear hK K
  iterate 1 (refine WQ_step (fun K hK => ?_); simp only [SQ_eq]; go_simp; refine hK _ ?_; clear hK K)
  refine WQ_step (fun K hK => ?_)
  simp only [SQ_eq]
  go_simp
  refine Exists.intro (Value.int .i64 y) (And.intro (fun w' hw => (by have h := (hQ.out w' hw).d0; simp [h])) ?_)
  go_simp
  refine hK _ ?_
  clear hK K
  refine WQ_step (fun K hK => ?_)
  simp only [SQ_eq]
  go_simp
  refine Exists.intro (Value.bool true) (And.intro (fun w' hw => (by have h := rIn_any c.year y _ w' (hQ.out w' hw).p.p1 hok.o1 y0 y1; rw [hIyear.out] at h; exact h.mono (fun e z h => ⟨h.1, ⟨hw.b.trans (h.2.mono hw.b.size)⟩⟩))) ?_)
  go_simp
  refine hK _ ?_
  clear hK K
  iterate 1 (refine WQ_step (fun K hK => ?_); simp only [SQ_eq]; go_simp; refine hK _ ?_; clear hK K)
  iterate 1 (refine WQ_step (fun K hK => ?_); simp only [SQ_eq]; go_simp; refine hK _ ?_; clear hK K)
  refine WQ_step (fun K hK => ?_)
  simp only [SQ_eq]
  go_simp
  refine Exists.intro (slv (S 2)) (And.intro (fun w' hw => (by have h := (hQ.out w' hw).c2; simp [h])) ?_)
  go_simp
  refine hK _ ?_
  clear hK K
  iterate 1 (refine WQ_step (fun K hK => ?_); simp only [SQ_eq]; go_simp; refine hK _ ?_; clear hK K)
  refine WQ_step (fun K hK => ?_)
  simp only [SQ_eq]
  go_simp
  refine Exists.intro (Value.int .i64 m) (And.intro (fun w' hw => (by have h := (hQ.out w' hw).d1; simp [h])) ?_)
  go_simp
  refine hK _ ?_
  clear hK K
  refine WQ_step (fun K hK => ?_)
  simp only [SQ_eq]
  go_simp
  refine Exists.intro (Value.bool true) (And.intro (fun w' hw => (by have h := rIn_any c.month m _ w' (hQ.out w' hw).p.p2 hok.o2 m0 m1; rw [hImonth.out] at h; exact h.mono (fun e z h => ⟨h.1, ⟨hw.b.trans (h.2.mono hw.b.size)⟩⟩))) ?_)
  go_simp
  refine hK _ ?_
  clear hK K
  iterate 2 (refine WQ_step (fun K hK => ?_); simp only [SQ_eq]; go_simp; refine hK _ ?_; clear hK K)
  iterate 1 (refine WQ_step (fun K hK => ?_); simp only [SQ_eq]; go_simp; refine hK _ ?_; clear hK K)
  refine WQ_step (fun K hK => ?_)
  simp only [SQ_eq]
  go_simp
  refine Exists.intro (slv (S 3)) (And.intro (fun w' hw => (by have h := (hQ.out w' hw).c3; simp [h])) ?_)
  go_simp
  refine hK _ ?_
  clear hK K
  iterate 1 (refine WQ_step (fun K hK => ?_); simp only [SQ_eq]; go_simp; refine hK _ ?_; clear hK K)
  refine WQ_step (fun K hK => ?_)
  simp only [SQ_eq]
  go_simp
  refine Exists.intro (Value.int .i64 d) (And.intro (fun w' hw => (by have h := (hQ.out w' hw).d2; simp [h])) ?_)
  go_simp
  refine hK _ ?_
  clear hK K
  refine WQ_step (fun K hK => ?_)
  simp only [SQ_eq]
  go_simp
  refine Exists.intro (Value.bool true) (And.intro (fun w' hw => (by have h := rIn_any c.day d _ w' (hQ.out w' hw).p.p3 hok.o3 d0 d1; rw [hIday.out] at h; exact h.mono (fun e z h => ⟨h.1, ⟨hw.b.trans (h.2.mono hw.b.size)⟩⟩))) ?_)
  go_simp
  refine hK _ ?_
  clear hK K
  iterate 2 (refine WQ_step (fun K hK => ?_); simp only [SQ_eq]; go_simp; refine hK _ ?_; clear hK K)
  iterate 1 (refine WQ_step (fun K hK => ?_); simp only [SQ_eq]; go_simp; refine hK _ ?_; clear hK K)
  refine WQ_step (fun K hK => ?_)
  simp only [SQ_eq]
  go_simp
  refine Exists.intro (Value.slice a0 N cap0) (And.intro (fun w' hw => (by have h := (hQ.out w' hw).c0; rw [hvH.out] at h; simp [h])) ?_)
  go_simp
  refine hK _ ?_
  clear hK K
  iterate 3 (refine WQ_step (fun K hK => ?_); simp only [SQ_eq]; go_simp; refine hK _ ?_; clear hK K)
  iterate 1 (refine WQ_step (fun K hK => ?_); simp only [SQ_eq]; go_simp; refine hK _ ?_; clear hK K)
  refine WQ_step (fun K hK => ?_)
  simp only [SQ_eq]
  go_simp
  refine Exists.intro (Value.slice a0 N cap0) (And.intro (fun w' hw => (by have h := (hQ.out w' hw).c0; rw [hvH.out] at h; simp [h])) ?_)
  go_simp
  refine hK _ ?_
  clear hK K
  iterate 1 (refine WQ_step (fun K hK => ?_); simp only [SQ_eq]; go_simp; refine hK _ ?_; clear hK K)
  refine WQ_step (fun K hK => ?_)
  simp only [SQ_eq]
  go_simp
  refine Exists.intro (Value.int .i64 (Civ.wd n)) (And.intro (fun w' hw => ((rWeek_any n w').mono (fun e z h => ⟨h.1, by rw [h.2]; exact hw⟩))) ?_)
  go_simp
  refine hK _ ?_
  clear hK K
  refine WQ_step (fun K hK => ?_)
  simp only [SQ_eq]
  go_simp
  refine Exists.intro (Value.bool true) (And.intro (fun w' hw => (by have h := rIn_any c.week (Civ.wd n) _ w' (hQ.out w' hw).p.p0 hok.o0 (by omega) (by omega); rw [hvH.out, hIweek.out] at h; exact h.mono (fun e z h => ⟨h.1, ⟨hw.b.trans (h.2.mono hw.b.size)⟩⟩))) ?_)
  go_simp
  refine hK _ ?_
  clear hK K
  iterate 3 (refine WQ_step (fun K hK => ?_); simp only [SQ_eq]; go_simp; refine hK _ ?_; clear hK K)
  refine WQ_nil (fun w' hw' => ?_)
  have hfin : Hid (Below w.heap.size w w') := hBH.out.trans (hw'.b.mono hBH.out.size)
  go_wp2_with fail
  go_ret
  exact ⟨rfl, hfin.out⟩
theorem rdate_any (S : Nat → Sl) (c : Cal.C7) (y m d n : Int) (w : World) (hp : CalPin (fun _ => False) w S c) (hok : CalOk c) (y0 : 0 ≤ y) (y1 : y ≤ 100000) (m0 : 0 ≤ m) (m1 : m ≤ 100000) (d0 : 0 ≤ d) (d1 : d ≤ 100000) :
    Calls Tryz.prog 19 #[aggC S, .agg #[.int .i64 y, .int .i64 m, .int .i64 d], .int .i64 n] w fun e w' => e = .returned (.bool (dtB c y m d n)) ∧ Below w.heap.size w w' := by
  unfold dtB Cal.onW
  cases hy : Cal.inL c.year y with
  | false => exact date_0 S c y m d n w hp hok y0 y1 hy
  | true =>
    cases hm : Cal.inL c.month m with
    | false => exact date_1 S c y m d n w hp hok y0 y1 m0 m1 hy hm
    | true =>
      cases hd : Cal.inL c.day d with
      | false => exact date_2 S c y m d n w hp hok y0 y1 m0 m1 d0 d1 hy hm hd
      | true =>
        cases hw : c.week with
        | nil => exact date_3 S c y m d n w hp hok y0 y1 m0 m1 d0 d1 hy hm hd hw
        | cons a r =>
          cases hi : Cal.inL (a :: r) (Civ.wd n) with
          | false => exact date_4 S c y m d n w hp hok y0 y1 m0 m1 d0 d1 hy hm hd (by rw [hw]; simp) (by rw [hw]; exact hi)
          | true => exact date_5 S c y m d n w hp hok y0 y1 m0 m1 d0 d1 hy hm hd (by rw [hw]; simp) (by rw [hw]; exact hi)
end Go.Proofs.YtehlnhljpdjppaaGreatDoor
