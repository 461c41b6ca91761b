/- The contract of package kern's Reap; a table of three names beside a kernel. -/
import Derived.Test.YtgienkdfodjoiaaGreatKI
namespace Go.Proofs.YtgienkdfodjoiaaGreat
open Go.RowKit Go.Shelf
set_option maxRecDepth 100000 in
set_option maxHeartbeats 2000000 in
theorem kreap_any {K : Kst} {w : World} (h : Ks w K) (hw : Kw K) :
    Calls Tryz.prog 25 #[kp K] w fun e w' => e = .returned (.tuple #[Pc.prV ((Pc.rpP K.l 1).getD Pc.zPr), .int .i64 (Pc.rpE K.l 1)]) ∧ Kg K w { K with last := K.last, l := Pc.rpL K.l 1 } w' 0 := by
  obtain ⟨W, hW⟩ : ∃ W, w.alloc (.cells #[.int .i64 0, .int .i64 0, .string ⟨#[]⟩, .bool false, .int .i64 0, .string ⟨#[]⟩] 53) = W := ⟨_, rfl⟩
  have b0 : Below w.heap.size w W := by rw [← hW]; exact (Below.refl _ _).alloc (Nat.le_refl _) _
  have hk := h.below b0
  have hS : Calls Tryz.prog 75 #[.pointer (some ⟨K.S.bt, 0, none⟩), .int .i64 1] W fun e w' => e = .returned (.tuple #[Pc.prV ((Pc.rpP K.l 1).getD Pc.zPr), .int .i64 (Pc.rpE K.l 1)]) ∧ Kg K W { K with last := K.last, l := Pc.rpL K.l 1 } w' 0 :=
    (Pc.reap_any K.S.bt K.bm K.room K.last K.l 1 W hk.t hw.pw.srt (by have := hw.pw.len'; omega) hw.pid).mono (fun e w' q => ⟨q.1, hk.proc q.2.1 q.2.2⟩)
  obtain ⟨q, hq⟩ : ∃ q, (Pc.rpP K.l 1).getD Pc.zPr = q := ⟨_, rfl⟩
  obtain ⟨x, hx⟩ : ∃ x, Pc.rpE K.l 1 = x := ⟨_, rfl⟩
  obtain ⟨L, hL⟩ : ∃ L, Pc.rpL K.l 1 = L := ⟨_, rfl⟩
  rw [hq, hx, hL] at hS ⊢
  have hnk : Hid (¬ hasK K w.heap.size) := fun c => by have := h.lt c; omega
  have hcl : ∀ j v, #[Value.int .i64 0, .int .i64 0, .string ⟨#[]⟩, .bool false, .int .i64 0, .string ⟨#[]⟩][j]? = some v → W.cell? ⟨w.heap.size, j, none⟩ = some v := fun j v e => by rw [← hW]; exact cell_at rfl e
  have hfz : ∀ j, W.frozen? ⟨w.heap.size, j, none⟩ = false := fun j => by rw [← hW]; exact froz_new rfl
  have hsz : W.heap.size = w.heap.size + 1 := by rw [← hW]; simp
  have hclH := hidK hcl
  have hfzH := hidK hfz
  have hszH := hidK hsz
  have kb0 := hidK (Kg.below h b0)
  obtain ⟨p0, p1, p2, p3, p4, p5, p6, p7⟩ := q
  simp only [Pc.prV] at hS
  obtain ⟨n, hn⟩ : ∃ n, w.heap.size = n := ⟨_, rfl⟩
  rw [hn] at hclH hfzH hszH hnk
  have hnH := hidK hn
  clear hq hx hL h hw hk b0 hcl hfz hsz
  unfold kp
  go_enter Tryz.func25, Tryz.ntmps25
  go_wp2_with (rw [hW])
  refine hS.mono ?_
  rintro e W1 ⟨rfl, k1⟩
  have c0 := k1.mv.cell (a := ⟨n, 0, none⟩) hnk.out (hclH.out 0 _ rfl)
  have c1 := k1.mv.cell (a := ⟨n, 1, none⟩) hnk.out (hclH.out 1 _ rfl)
  have c2 := k1.mv.cell (a := ⟨n, 2, none⟩) hnk.out (hclH.out 2 _ rfl)
  have c3 := k1.mv.cell (a := ⟨n, 3, none⟩) hnk.out (hclH.out 3 _ rfl)
  have c4 := k1.mv.cell (a := ⟨n, 4, none⟩) hnk.out (hclH.out 4 _ rfl)
  have c5 := k1.mv.cell (a := ⟨n, 5, none⟩) hnk.out (hclH.out 5 _ rfl)
  have fz : ∀ j, W1.frozen? ⟨n, j, none⟩ = false := fun j => (k1.mv.froz (a := ⟨n, j, none⟩) hnk.out (by show n < _; have := hszH.out; omega)).trans (hfzH.out j)
  have f0 := fz 0
  have f1 := fz 1
  have f2 := fz 2
  have f3 := fz 3
  have f4 := fz 4
  have f5 := fz 5
  have kk := hidK (kb0.out.trans k1)
  obtain ⟨W2, hW2⟩ : ∃ W2, (((((W1.setCell ⟨n, 0, none⟩ (.int .i64 p0)).setCell ⟨n, 1, none⟩ (.int .i64 p1)).setCell ⟨n, 2, none⟩ (.string p2)).setCell ⟨n, 3, none⟩ (.bool p3)).setCell ⟨n, 4, none⟩ (.int .i64 p4)).setCell ⟨n, 5, none⟩ (.string p5) = W2 := ⟨_, rfl⟩
  have mS : Mv (fun k => k = n) W1 W2 := by
    rw [← hW2]
    exact ((((((Mv.refl (fun k => k = n) W1).setc (p := ⟨n, 0, none⟩) (.inl rfl) _).setc (p := ⟨n, 1, none⟩) (.inl rfl) _).setc (p := ⟨n, 2, none⟩) (.inl rfl) _).setc (p := ⟨n, 3, none⟩) (.inl rfl) _).setc (p := ⟨n, 4, none⟩) (.inl rfl) _).setc (p := ⟨n, 5, none⟩) (.inl rfl) _
  have fin : Hid (Kg K w { K with last := K.last, l := L } W2 0) := kk.out.out mS (fun k f => by rw [f]; exact ⟨hnk.out, by have := hnH.out; omega⟩)
  have oth : ∀ (V : World) (j i : Nat) (u : Value), j ≠ i → (V.setCell ⟨n, i, none⟩ u).cell? ⟨n, j, none⟩ = V.cell? ⟨n, j, none⟩ := fun V j i u hj => World.cell?_setCell_other _ _ _ _ (by intro e; cases e; exact hj rfl)
  have d0 : W2.cell? ⟨n, 0, none⟩ = some (.int .i64 p0) := by rw [← hW2, oth _ 0 5 _ (by decide), oth _ 0 4 _ (by decide), oth _ 0 3 _ (by decide), oth _ 0 2 _ (by decide), oth _ 0 1 _ (by decide)]; exact World.cell?_setCell_same' _ _ _ (by rw [c0]; rfl)
  have d1 : W2.cell? ⟨n, 1, none⟩ = some (.int .i64 p1) := by rw [← hW2, oth _ 1 5 _ (by decide), oth _ 1 4 _ (by decide), oth _ 1 3 _ (by decide), oth _ 1 2 _ (by decide)]; exact World.cell?_setCell_same' _ _ _ (by rw [oth _ 1 0 _ (by decide), c1]; rfl)
  have d2 : W2.cell? ⟨n, 2, none⟩ = some (.string p2) := by rw [← hW2, oth _ 2 5 _ (by decide), oth _ 2 4 _ (by decide), oth _ 2 3 _ (by decide)]; exact World.cell?_setCell_same' _ _ _ (by rw [oth _ 2 1 _ (by decide), oth _ 2 0 _ (by decide), c2]; rfl)
  have d3 : W2.cell? ⟨n, 3, none⟩ = some (.bool p3) := by rw [← hW2, oth _ 3 5 _ (by decide), oth _ 3 4 _ (by decide)]; exact World.cell?_setCell_same' _ _ _ (by rw [oth _ 3 2 _ (by decide), oth _ 3 1 _ (by decide), oth _ 3 0 _ (by decide), c3]; rfl)
  have d4 : W2.cell? ⟨n, 4, none⟩ = some (.int .i64 p4) := by rw [← hW2, oth _ 4 5 _ (by decide)]; exact World.cell?_setCell_same' _ _ _ (by rw [oth _ 4 3 _ (by decide), oth _ 4 2 _ (by decide), oth _ 4 1 _ (by decide), oth _ 4 0 _ (by decide), c4]; rfl)
  have d5 : W2.cell? ⟨n, 5, none⟩ = some (.string p5) := by rw [← hW2]; exact World.cell?_setCell_same' _ _ _ (by rw [oth _ 5 4 _ (by decide), oth _ 5 3 _ (by decide), oth _ 5 2 _ (by decide), oth _ 5 1 _ (by decide), oth _ 5 0 _ (by decide), c5]; rfl)
  clear hS k1 fz kk mS oth hclH hfzH
  go_wp2_with (rw [hW2])
  exact bodyPost_ret (v := .tuple #[Pc.prV ⟨p0, p1, p2, p3, p4, p5, p6, p7⟩, .int .i64 x]) (by simp [results, Tryz.results25, go_sem, Pc.prV, d0, d1, d2, d3, d4, d5]) rfl ⟨rfl, fin.out⟩
theorem reap_p {F : Fm} {w : World} {b c : Nat} {p : Pl} {W : World} (h : Kp F w b c p W) (hc : c ≤ 1000) :
    Calls Tryz.prog 25 #[kptr b] W fun e W' => e = .returned (.tuple #[Pc.prV ((Pc.rpP p.l 1).getD Pc.zPr), .int .i64 (Pc.rpE p.l 1)]) ∧ Kp F w b c (rpQ p) W' := by
  obtain ⟨K, h, f⟩ := h
  have e := h.pl
  have q := h.pw
  have hb := h.bt
  subst e hb
  refine (kreap_any h.k (h.w hc)).mono ?_
  rintro e W' ⟨rfl, k2⟩
  exact ⟨rfl, h.step f k2 rfl ⟨q.pw.reap 1, q.gs, q.la, q.gl⟩⟩
/-- Three names beside the kernel. -/
def FA (D : Nat) : Fm := ⟨fun K W => (∀ k, k < 3 → W.cell? ⟨D, k, none⟩ = some (.string (nm3 k))) ∧ D < W.heap.size ∧ ¬ hasK K D, fun K W K' W' d _ f g => ⟨fun k hk => g.mv.cell (a := ⟨D, k, none⟩) f.2.2 (f.1 k hk), Nat.lt_of_lt_of_le f.2.1 g.mv.size, fun q => by
  rcases g.gr D q with r | r
  · exact f.2.2 r
  · have := f.2.1; omega⟩⟩
theorem Kp.nm {D : Nat} {w : World} {b c : Nat} {p : Pl} {W : World} (h : Kp (FA D) w b c p W) {k : Nat} (hk : k < 3) : W.cell? ⟨D, k, none⟩ = some (.string (nm3 k)) := by
  obtain ⟨K, h, f⟩ := h
  exact f.1 k hk
theorem nm3_size (k : Nat) : (nm3 k).size ≤ 1000 := by unfold nm3; split <;> (try split) <;> decide
def gl3 (ks : Nat → Nat) (j : Nat) : Cg.Gl := (List.range j).map fun i => ⟨nm3 i, ks i, []⟩
theorem gl3_make (ks : Nat → Nat) (k : Nat) : ∀ {j : Nat}, j < 3 → Cg.makeE (gl3 ks j) (nm3 j) = 0 ∧ Cg.insG ⟨nm3 j, k, []⟩ (gl3 ks j) = gl3 (fun i => if i = j then k else ks i) (j + 1)
  | 0, _ => ⟨by kernel_rfl, by kernel_rfl⟩
  | 1, _ => ⟨by kernel_rfl, by kernel_rfl⟩
  | 2, _ => ⟨by kernel_rfl, by kernel_rfl⟩
theorem gl3_end (ks : Nat → Nat) : three (gl3 ks 3) ∧ ∀ x ∈ gl3 ks 3, x.pids = [] := by
  refine ⟨by unfold three; kernel_rfl, fun x hx => ?_⟩
  obtain ⟨i, _, rfl⟩ := List.mem_map.1 hx
  rfl
end Go.Proofs.YtgienkdfodjoiaaGreat
