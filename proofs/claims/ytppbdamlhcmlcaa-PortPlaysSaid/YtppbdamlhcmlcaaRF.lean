/- The reference's Accept, Waiting, Send, Receive. -/
import Derived.Test.YtppbdamlhcmlcaaRE
namespace Go.Proofs.Ytppbdamlhcmlcaa
open Go.RowKit Go.Shelf Go.Lib
/-- The first pair is cut off. -/
theorem QS.cut {w : World} {x : Pr} {r : List Pr} {v : Value} (h : QS w v (x :: r)) : ∃ g o cap, v = .slice (some ⟨g, o, none⟩) (r.length + 1) cap ∧ w.cell? ⟨g, o, none⟩ = some (.int .i64 x.1) ∧ w.cell? ⟨g, o + 1, none⟩ = some (.string x.2) ∧ r.length + 1 ≤ cap ∧ cap ≤ maxLen ∧ g < w.heap.size ∧ QS w (.slice (if cap = 1 then some ⟨g, o, none⟩ else some ⟨g, o + 2, none⟩) r.length (cap - 1)) r := by
  rcases h with ⟨_, h⟩ | ⟨g, o, cap, rfl, hg, h1, h2, h3, h4⟩
  · cases h
  · refine ⟨g, o, cap, rfl, h3 0 _ rfl, h3 1 _ rfl, h1, h2, hg, ?_⟩
    simp only [List.length_cons] at h1
    by_cases hc : cap = 1
    · rw [if_pos hc]
      subst hc
      obtain rfl : r = [] := List.eq_nil_of_length_eq_zero (by omega)
      exact .inr ⟨g, o, 0, rfl, hg, by simp, by omega, fun j x hx => by simp [flat] at hx, fun j hj => by omega⟩
    · rw [if_neg hc]
      exact .inr ⟨g, o + 2, cap - 1, rfl, hg, by omega, by omega, fun j y hy => by rw [show o + 2 + j = o + (j + 2) by omega]; exact h3 (j + 2) y (by simpa [flat] using hy), fun j hj => by rw [show o + 2 + j = o + (j + 2) by omega]; exact h4 (j + 2) (by omega)⟩
/-- Something new besides is written. -/
theorem RGoes.new {R R' : Rt} {w v u : World} {n : Nat} (h : RGoes R w R' v) (m : Mv (fun k => k = n) v u) (hn : w.heap.size ≤ n) (h1 : ¬ hasR R' n) (h2 : ∀ x ∈ R'.l, nb x.v ≠ some n) (h3 : nb R'.dv ≠ some n) : RGoes R w R' u :=
  ⟨h.r.mv m (fun k hk e => h1 (e ▸ hk)) (fun x hx k hk e => h2 x hx (e ▸ hk)) (fun k hk e => h3 (e ▸ hk)), h.b, ⟨m.os.trans h.mv.os, m.tape.trans h.mv.tape, m.output.trans h.mv.output, Nat.le_trans h.mv.size m.size, fun k hk he => (m.block k (Nat.lt_of_lt_of_le hk h.mv.size) (fun e => by omega)).trans (h.mv.block k hk he)⟩, h.gr, h.al⟩
set_option maxRecDepth 100000 in
set_option maxHeartbeats 400000 in
theorem rwaiting_any (R : Rt) (s : ByteArray) (w : World) (h : Rs w R) (hl : R.l.length ≤ 1000) :
    Calls Try.prog 24 #[.pointer (some ⟨R.b, 0, none⟩), .string s] w fun e w' => ∃ v, e = .returned v ∧ QS w' v (if thereR R.l s then ((R.l[atP R.l s]?).map RG.ps).getD [] else []) ∧ (∀ k, nb v = some k → k < w.heap.size) ∧ Below w.heap.size w w' := by
  have hat := hidP (rat_any R s w h hl)
  cases ht : thereR R.l s with
  | false =>
    rw [ht] at hat
    clear h ht
    go_enter Try.func24, Try.ntmps24
    go_wp2_with fail
    refine hat.out.mono ?_
    rintro e w1 ⟨rfl, hb1⟩
    clear hat
    go_wp2_with fail
    go_ret
    exact ⟨_, rfl, .inl ⟨rfl, rfl⟩, fun k hk => by (cases hk), hb1⟩
  | true =>
    rw [ht] at hat
    obtain ⟨x, hx⟩ : ∃ x, R.l[atP R.l s]? = some x := by
      unfold thereR at ht
      cases e : R.l[atP R.l s]? with
      | none => rw [e] at ht; cases ht
      | some x => exact ⟨x, rfl⟩
    obtain ⟨i, hi⟩ : ∃ i, atP R.l s = i := ⟨_, rfl⟩
    rw [hi] at hat hx ⊢
    rw [hx]
    obtain ⟨n, hnn⟩ : ∃ n, R.l.length = n := ⟨_, rfl⟩
    have hil : (i : Int) < (n : Int) := by have := (List.getElem?_eq_some_iff.1 hx).1; omega
    have hi0 : (0 : Int) ≤ (i : Int) := by omega
    have hxr := h.ps x (List.mem_of_getElem? hx)
    obtain ⟨p, c, hv⟩ := hxr.1.shape
    obtain ⟨m, hm⟩ : ∃ m, x.ps.length = m := ⟨_, rfl⟩
    rw [hm] at hv
    have hH := hidP (And.intro h (And.intro hx (And.intro hnn (And.intro hv hxr))))
    clear h ht hi hx hnn hv hxr hm
    go_enter Try.func24, Try.ntmps24
    go_wp2_with fail
    refine hat.out.mono ?_
    rintro e w1 ⟨rfl, hb1⟩
    clear hat
    obtain ⟨hR, hx, hnn, hv, hxr⟩ := hH.out
    have h1 := hR.below hb1
    obtain ⟨g, cap, e1, _, e3⟩ := h1.at hx
    have c0 := h1.c0
    rw [e1, hnn] at c0
    rw [hv] at e3
    have fin : Hid (QS w1 (.slice p m c) x.ps ∧ (∀ k, nb (.slice p m c) = some k → k < w.heap.size)) := by rw [← hv]; exact ⟨hxr.1.below hb1, fun k hk => (hxr.2 k hk).1⟩
    clear h1 hR hx hnn hv hxr e1 hH
    go_wp2_with fail
    go_ret
    exact ⟨_, rfl, fin.out.1, fin.out.2, hb1⟩
set_option maxRecDepth 100000 in
set_option maxHeartbeats 400000 in
theorem raccept_no (R : Rt) (s : ByteArray) (w : World) (h : Rs w R) (hl : R.l.length ≤ 1000) (ht : thereR R.l s = false) :
    Calls Try.prog 16 #[.pointer (some ⟨R.b, 0, none⟩), .string s] w fun e w' => e = .returned (.tuple #[.agg #[.int .i64 0, .string ⟨#[]⟩], .int .i64 100]) ∧ Below w.heap.size w w' := by
  obtain ⟨W0, hW0⟩ : ∃ W0, w.alloc (.cells #[.int .i64 0, .string ⟨#[]⟩] 41) = W0 := ⟨_, rfl⟩
  have b0 : Below w.heap.size w W0 := by rw [← hW0]; exact (Below.refl _ _).alloc (Nat.le_refl _) _
  have hat := hidP (rat_any R s W0 (h.below b0) hl)
  rw [ht] at hat
  have r0 : W0.cell? ⟨w.heap.size, 0, none⟩ = some (.int .i64 0) := by rw [← hW0]; exact cell_at rfl rfl
  have r1 : W0.cell? ⟨w.heap.size, 1, none⟩ = some (.string ⟨#[]⟩) := by rw [← hW0]; exact cell_at rfl rfl
  have z0 : W0.frozen? ⟨w.heap.size, 0, none⟩ = false := by rw [← hW0]; exact froz_new rfl
  have z1 : W0.frozen? ⟨w.heap.size, 1, none⟩ = false := by rw [← hW0]; exact froz_new rfl
  have hs0 : W0.heap.size = w.heap.size + 1 := by rw [← hW0]; simp
  have hid := hidP (And.intro r0 (And.intro r1 (And.intro z0 (And.intro z1 (And.intro hs0 b0)))))
  clear h ht b0 r0 r1 z0 z1 hs0
  go_enter Try.func16, Try.ntmps16
  go_wp2_with (rw [hW0])
  refine hat.out.mono ?_
  rintro e W3 ⟨rfl, hb3⟩
  obtain ⟨r0, r1, z0, z1, hs0, b0⟩ := hid.out
  have m3 : Mv (fun _ => False) W0 W3 := Mv.below hb3
  have r0' := m3.cell (a := ⟨w.heap.size, 0, none⟩) (fun h => h) r0
  have r1' := m3.cell (a := ⟨w.heap.size, 1, none⟩) (fun h => h) r1
  have z0' := (m3.froz (a := ⟨w.heap.size, 0, none⟩) (fun h => h) (by show w.heap.size < _; omega)).trans z0
  have z1' := (m3.froz (a := ⟨w.heap.size, 1, none⟩) (fun h => h) (by show w.heap.size < _; omega)).trans z1
  have r2 : (W3.setCell ⟨w.heap.size, 0, none⟩ (.int .i64 0)).cell? ⟨w.heap.size, 0, none⟩ = some (.int .i64 0) := World.cell?_setCell_same' _ _ _ (by rw [r0']; rfl)
  have r3 : ((W3.setCell ⟨w.heap.size, 0, none⟩ (.int .i64 0)).setCell ⟨w.heap.size, 1, none⟩ (.string ⟨#[]⟩)).cell? ⟨w.heap.size, 1, none⟩ = some (.string ⟨#[]⟩) := World.cell?_setCell_same' _ _ _ (by rw [World.cell?_setCell_other _ _ _ _ (by simp), r1']; rfl)
  have fin : Hid (Below w.heap.size w ((W3.setCell ⟨w.heap.size, 0, none⟩ (.int .i64 0)).setCell ⟨w.heap.size, 1, none⟩ (.string ⟨#[]⟩))) := ((b0.trans (hb3.mono (by omega))).setCell (by exact Nat.le_refl _) _).setCell (by exact Nat.le_refl _) _
  clear hb3 m3 r0 r1 z0 z1 hs0 b0 hid hat hW0
  go_wp2_with fail
  exact bodyPost_ret (v := .tuple #[.agg #[.int .i64 0, .string ⟨#[]⟩], .int .i64 100]) (by simp [results, Try.results16, go_sem, r2, r3]) rfl ⟨rfl, fin.out⟩
set_option maxRecDepth 100000 in
set_option maxHeartbeats 400000 in
theorem raccept_empty (R : Rt) (s : ByteArray) (i : Nat) (x : RG) (w : World) (h : Rs w R) (hl : R.l.length ≤ 1000) (ht : thereR R.l s = true) (hi : atP R.l s = i) (hx : R.l[i]? = some x) (hp : x.ps = []) :
    Calls Try.prog 16 #[.pointer (some ⟨R.b, 0, none⟩), .string s] w fun e w' => e = .returned (.tuple #[.agg #[.int .i64 0, .string ⟨#[]⟩], .int .i64 100]) ∧ Below w.heap.size w w' := by
  obtain ⟨W0, hW0⟩ : ∃ W0, w.alloc (.cells #[.int .i64 0, .string ⟨#[]⟩] 41) = W0 := ⟨_, rfl⟩
  have b0 : Below w.heap.size w W0 := by rw [← hW0]; exact (Below.refl _ _).alloc (Nat.le_refl _) _
  have hat := hidP (rat_any R s W0 (h.below b0) hl)
  rw [ht, hi] at hat
  have r0 : W0.cell? ⟨w.heap.size, 0, none⟩ = some (.int .i64 0) := by rw [← hW0]; exact cell_at rfl rfl
  have r1 : W0.cell? ⟨w.heap.size, 1, none⟩ = some (.string ⟨#[]⟩) := by rw [← hW0]; exact cell_at rfl rfl
  have z0 : W0.frozen? ⟨w.heap.size, 0, none⟩ = false := by rw [← hW0]; exact froz_new rfl
  have z1 : W0.frozen? ⟨w.heap.size, 1, none⟩ = false := by rw [← hW0]; exact froz_new rfl
  have hs0 : W0.heap.size = w.heap.size + 1 := by rw [← hW0]; simp
  have hid := hidP (And.intro r0 (And.intro r1 (And.intro z0 (And.intro z1 (And.intro hs0 b0)))))
  obtain ⟨n, hnn⟩ : ∃ n, R.l.length = n := ⟨_, rfl⟩
  have hil : (i : Int) < (n : Int) := by have := (List.getElem?_eq_some_iff.1 hx).1; omega
  have hi0 : (0 : Int) ≤ (i : Int) := by omega
  obtain ⟨p, c, hv⟩ := (h.ps x (List.mem_of_getElem? hx)).1.shape
  rw [hp, List.length_nil] at hv
  have hH := hidP (And.intro h (And.intro hx (And.intro hnn hv)))
  clear h ht b0 r0 r1 z0 z1 hs0 hi hx hnn hv hp
  go_enter Try.func16, Try.ntmps16
  go_wp2_with (rw [hW0])
  refine hat.out.mono ?_
  rintro e W3 ⟨rfl, hb3⟩
  obtain ⟨r0, r1, z0, z1, hs0, b0⟩ := hid.out
  have h1 := (hH.out.1.below b0).below hb3
  obtain ⟨g, cap, e1, _, e3⟩ := h1.at hH.out.2.1
  have c0 := h1.c0
  rw [e1, hH.out.2.2.1] at c0
  rw [hH.out.2.2.2] at e3
  have m3 : Mv (fun _ => False) W0 W3 := Mv.below hb3
  have r0' := m3.cell (a := ⟨w.heap.size, 0, none⟩) (fun h => h) r0
  have r1' := m3.cell (a := ⟨w.heap.size, 1, none⟩) (fun h => h) r1
  have z0' := (m3.froz (a := ⟨w.heap.size, 0, none⟩) (fun h => h) (by show w.heap.size < _; omega)).trans z0
  have z1' := (m3.froz (a := ⟨w.heap.size, 1, none⟩) (fun h => h) (by show w.heap.size < _; omega)).trans z1
  have r2 : (W3.setCell ⟨w.heap.size, 0, none⟩ (.int .i64 0)).cell? ⟨w.heap.size, 0, none⟩ = some (.int .i64 0) := World.cell?_setCell_same' _ _ _ (by rw [r0']; rfl)
  have r3 : ((W3.setCell ⟨w.heap.size, 0, none⟩ (.int .i64 0)).setCell ⟨w.heap.size, 1, none⟩ (.string ⟨#[]⟩)).cell? ⟨w.heap.size, 1, none⟩ = some (.string ⟨#[]⟩) := World.cell?_setCell_same' _ _ _ (by rw [World.cell?_setCell_other _ _ _ _ (by simp), r1']; rfl)
  have fin : Hid (Below w.heap.size w ((W3.setCell ⟨w.heap.size, 0, none⟩ (.int .i64 0)).setCell ⟨w.heap.size, 1, none⟩ (.string ⟨#[]⟩))) := ((b0.trans (hb3.mono (by omega))).setCell (by exact Nat.le_refl _) _).setCell (by exact Nat.le_refl _) _
  clear hb3 m3 r0 r1 z0 z1 hs0 b0 hid hat hW0 h1 hH e1
  go_wp2_with fail
  exact bodyPost_ret (v := .tuple #[.agg #[.int .i64 0, .string ⟨#[]⟩], .int .i64 100]) (by simp [results, Try.results16, go_sem, r2, r3]) rfl ⟨rfl, fin.out⟩
end Go.Proofs.Ytppbdamlhcmlcaa
