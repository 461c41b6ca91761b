/- Contracts of port's queue. -/
import Derived.Test.YtppbdamlhcmlcaaPT
import Derived.Test.YtppbdamlhcmlcaaPD
namespace Go.Proofs.Ytppbdamlhcmlcaa
open Go.RowKit Go.Shelf Go.Lib
set_option maxRecDepth 100000 in
set_option maxHeartbeats 2000000 in
theorem pushC_full (b o : Nat) (sv : Value) (xs : List Pr) (i : Int) (s : ByteArray) (w : World) (hc : w.cell? ⟨b, o, none⟩ = some sv) (hq : QS w sv xs) (hl : xs.length = 16) :
    Calls Try.prog 29 #[.pointer (some ⟨b, o, none⟩), .agg #[.int .i64 i, .string s]] w fun e w' => e = .returned (.bool false) ∧ Below w.heap.size w w' := by
  obtain ⟨p, c, rfl⟩ := hq.shape
  rw [hl] at hc
  have hc1 : (w.alloc (.cells #[.int .i64 i, .string s] 41)).cell? ⟨b, o, none⟩ = some (.slice p 16 c) := (Mv.alloc (fun _ => False) w _).cell (a := ⟨b, o, none⟩) (fun h => h) hc
  clear hq hc hl
  go_enter Try.func29, Try.ntmps29
  go_wp2_with fail
  go_ret
  exact ⟨rfl, (Below.refl _ _).alloc (Nat.le_refl _) _⟩
set_option maxRecDepth 100000 in
set_option maxHeartbeats 2000000 in
theorem pushC_ok (b o : Nat) (sv : Value) (xs : List Pr) (i : Int) (s : ByteArray) (w : World) (hc : w.cell? ⟨b, o, none⟩ = some sv) (hf : w.frozen? ⟨b, o, none⟩ = false) (hq : QS w sv xs) (hnb : nb sv ≠ some b) (hl : xs.length < 16) :
    Calls Try.prog 29 #[.pointer (some ⟨b, o, none⟩), .agg #[.int .i64 i, .string s]] w fun e w' => e = .returned (.bool true) ∧ ∃ sv', Tn b o sv sv' w w' ∧ QS w' sv' (xs ++ [(i, s)]) := by
  obtain ⟨W0, hW0⟩ : ∃ W0, w.alloc (.cells #[.int .i64 i, .string s] 41) = W0 := ⟨_, rfl⟩
  have m0 : Mv (fun k => nb sv = some k) w W0 := by rw [← hW0]; exact Mv.alloc _ _ _
  have hbl := cell_lt hc
  have b0 : W0.cell? ⟨w.heap.size, 0, none⟩ = some (.int .i64 i) := by rw [← hW0]; exact cell_at rfl rfl
  have b1 : W0.cell? ⟨w.heap.size, 1, none⟩ = some (.string s) := by rw [← hW0]; exact cell_at rfl rfl
  have c0 : W0.cell? ⟨b, o, none⟩ = some sv := m0.cell (a := ⟨b, o, none⟩) (fun h => hnb h) hc
  obtain ⟨W, hW⟩ : ∃ W, W0.drew.alloc (.cells #[.int .i64 i, .string s] 41) = W := ⟨_, rfl⟩
  have mW : Mv (fun k => nb sv = some k) w W := by rw [← hW]; exact (m0.trans' (Mv.drew _ _)).trans' (Mv.alloc _ _ _)
  have hqW : QS W sv xs := (hq.mv (E := fun _ => False) (by rw [← hW, ← hW0]; exact ((Mv.alloc _ _ _).trans' (Mv.drew _ _)).trans' (Mv.alloc _ _ _)) (fun _ _ h => h))
  have cW : W.cell? ⟨b, o, none⟩ = some sv := mW.cell (a := ⟨b, o, none⟩) (fun h => hnb h) hc
  obtain ⟨v', w4, hrun, hns, mv4, hat⟩ := hqW.append tyC (a := ⟨W0.heap.size, 0, none⟩) (x := (i, s)) (c := 1) (by rw [← hW]; exact cell_at rfl rfl) (by rw [Addr.add_lit, ← hW]; exact cell_at rfl rfl) (by omega) 54
  have hat' : nb v' = nb sv ∨ ∃ k, nb v' = some k ∧ w.heap.size ≤ k := hat.imp id (fun ⟨k, e, hk⟩ => ⟨k, e, Nat.le_trans mW.size hk⟩)
  have mm4 : Mv (fun k => nb sv = some k) w w4 := mW.trans' mv4
  have c4 := mm4.cell (a := ⟨b, o, none⟩) (fun h => hnb h) hc
  have f4 := (mm4.froz (a := ⟨b, o, none⟩) (fun h => hnb h) hbl).trans hf
  have fin : Hid (∃ sv', Tn b o sv sv' w (w4.setCell ⟨b, o, none⟩ v') ∧ QS (w4.setCell ⟨b, o, none⟩ v') sv' (xs ++ [(i, s)])) :=
    ⟨v', Tn.make hc hnb mm4 hat', hns.set (fun e => by
      rcases hat' with q | ⟨k, q, hk⟩
      · exact hnb (q ▸ e)
      · rw [e] at q; injection q with q
        have : b < w.heap.size := hbl
        omega) _⟩
  obtain ⟨p, c, rfl⟩ := hq.shape
  obtain ⟨p', c', rfl⟩ := hns.shape
  obtain ⟨n, hn⟩ : ∃ n, xs.length = n := ⟨_, rfl⟩
  obtain ⟨n', hn'⟩ : ∃ n', (xs ++ [(i, s)]).length = n' := ⟨_, rfl⟩
  rw [hn] at hrun c0 cW hl
  rw [hn'] at hrun fin
  have hlI : ¬ (16 : Int) ≤ (n : Int) := by omega
  clear hq hqW hns mW mv4 mm4 hat hat' hc hf hn hn' m0 hnb hbl
  go_enter Try.func29, Try.ntmps29
  go_wp2_with (rw [hW0])
  go_region_law (first | (refine step_append_run rfl (.tmp 15) (.tmp 17) 54 rfl _ _ _ _ rfl rfl hrun ?_) | rw [hW])
  all_goals
    go_wp2_with fail
    go_ret
    exact ⟨rfl, fin.out⟩
set_option maxRecDepth 100000 in
set_option maxHeartbeats 2000000 in
theorem popC_none (b o : Nat) (sv : Value) (w : World) (hc : w.cell? ⟨b, o, none⟩ = some sv) (hq : QS w sv []) :
    Calls Try.prog 30 #[.pointer (some ⟨b, o, none⟩)] w fun e w' => e = .returned (.tuple #[.agg #[.int .i64 0, .string ⟨#[]⟩], .bool false]) ∧ Below w.heap.size w w' := by
  obtain ⟨p, c, rfl⟩ := hq.shape
  rw [List.length_nil] at hc
  have hc1 : (w.alloc (.cells #[.int .i64 0, .string ⟨#[]⟩] 41)).cell? ⟨b, o, none⟩ = some (.slice p 0 c) := (Mv.alloc (fun _ => False) w _).cell (a := ⟨b, o, none⟩) (fun h => h) hc
  clear hq hc
  go_enter Try.func30, Try.ntmps30
  go_wp2_with fail
  exact bodyPost_ret (v := .tuple #[.agg #[.int .i64 0, .string ⟨#[]⟩], .bool false]) (by simp [results, Try.results30, go_sem]) rfl ⟨rfl, ((Below.refl _ _).alloc (Nat.le_refl _) _).alloc (by simp) _⟩
set_option maxRecDepth 100000 in
set_option maxHeartbeats 2000000 in
theorem popC_ok (b o : Nat) (sv : Value) (i : Int) (s : ByteArray) (r : List Pr) (w : World) (hc : w.cell? ⟨b, o, none⟩ = some sv) (hf : w.frozen? ⟨b, o, none⟩ = false) (hq : QS w sv ((i, s) :: r)) (hnb : nb sv ≠ some b) :
    Calls Try.prog 30 #[.pointer (some ⟨b, o, none⟩)] w fun e w' => e = .returned (.tuple #[.agg #[.int .i64 i, .string s], .bool true]) ∧ ∃ sv', Tn b o sv sv' w w' ∧ QS w' sv' r := by
  rcases hq with ⟨_, h0⟩ | ⟨g, q, cap, rfl, hg, h1, h2, h3, h4⟩
  · cases h0
  obtain ⟨W0, hW0⟩ : ∃ W0, w.alloc (.cells #[.int .i64 0, .string ⟨#[]⟩] 41) = W0 := ⟨_, rfl⟩
  have m0 : Mv (fun _ => False) w W0 := by rw [← hW0]; exact Mv.alloc _ _ _
  have c0 : W0.cell? ⟨b, o, none⟩ = some _ := m0.cell (a := ⟨b, o, none⟩) (fun h => h) hc
  have k0 : W0.cell? ⟨g, q, none⟩ = some (.int .i64 i) := m0.cell (a := ⟨g, q, none⟩) (fun h => h) (h3 0 _ rfl)
  have k1 : W0.cell? ⟨g, q + 1, none⟩ = some (.string s) := m0.cell (a := ⟨g, q + 1, none⟩) (fun h => h) (h3 1 _ rfl)
  have hs0 : W0.heap.size = w.heap.size + 1 := by rw [← hW0]; simp
  obtain ⟨W1, hW1⟩ : ∃ W1, W0.alloc (.cells #[.int .i64 i, .string s] 41) = W1 := ⟨_, rfl⟩
  have m1 : Mv (fun _ => False) w W1 := by rw [← hW1]; exact m0.trans' (Mv.alloc _ _ _)
  have c1 : W1.cell? ⟨b, o, none⟩ = some _ := m1.cell (a := ⟨b, o, none⟩) (fun h => h) hc
  have hb1 : ∀ j, W1.cell? ⟨g, j, none⟩ = w.cell? ⟨g, j, none⟩ := fun j => World.cell?_of_block (m1.block g hg (fun h => h))
  have hfz1 : ∀ j, W1.frozen? ⟨g, j, none⟩ = w.frozen? ⟨g, j, none⟩ := fun j => m1.froz (a := ⟨g, j, none⟩) (fun h => h) hg
  have hD := hidP (deleteC g q cap (i, s) r W1 (Nat.lt_of_lt_of_le hg m1.size) h1 h2 (fun j u hj => by rw [hb1]; exact h3 j u hj) (fun j hj => by rw [hb1, hfz1]; exact h4 j hj))
  have hbl := cell_lt hc
  have hgb : b ≠ g := fun e => hnb (by rw [e]; rfl)
  have hs1 : W1.heap.size = w.heap.size + 2 := by rw [← hW1]; simp [hs0]
  have r0 : W1.cell? ⟨w.heap.size, 0, none⟩ = some (.int .i64 0) := by
    rw [← hW1]; exact (Mv.alloc (fun _ => False) W0 _).cell (a := ⟨w.heap.size, 0, none⟩) (fun h => h) (by rw [← hW0]; exact cell_at rfl rfl)
  have r1 : W1.cell? ⟨w.heap.size, 1, none⟩ = some (.string ⟨#[]⟩) := by
    rw [← hW1]; exact (Mv.alloc (fun _ => False) W0 _).cell (a := ⟨w.heap.size, 1, none⟩) (fun h => h) (by rw [← hW0]; exact cell_at rfl rfl)
  have rz : ∀ j, W1.frozen? ⟨w.heap.size, j, none⟩ = false := fun j => by
    rw [← hW1]; exact ((Mv.alloc (fun _ => False) W0 _).froz (a := ⟨w.heap.size, j, none⟩) (fun h => h) (by show w.heap.size < _; omega)).trans (by rw [← hW0]; exact froz_new rfl)
  have v0 : W1.cell? ⟨W0.heap.size, 0, none⟩ = some (.int .i64 i) := by rw [← hW1]; exact cell_at rfl rfl
  have v1 : W1.cell? ⟨W0.heap.size, 1, none⟩ = some (.string s) := by rw [← hW1]; exact cell_at rfl rfl
  rw [List.length_cons] at c0 c1 hc
  obtain ⟨nr, hnr⟩ : ∃ nr, r.length = nr := ⟨_, rfl⟩
  have hcapm : nr + 1 ≤ cap := by rw [← hnr]; exact h1
  rw [List.length_cons] at hnb ⊢
  rw [hnr] at c0 c1 hc hnb hD ⊢
  have hnbH := hidP hnb
  have hcH := hidP hc
  have hfH := hidP hf
  have hn0 : (0 : Int) < (nr : Int) + 1 := by omega
  have hn2 : ¬ (nr : Int) + 1 = 0 := by omega
  have m1H := hidP m1
  have hid := hidP (And.intro hs0 (And.intro hs1 (And.intro r0 (And.intro r1 (And.intro rz (And.intro v0 v1))))))
  clear hcapm h3 h4 hb1 hfz1 hnb hc hf h1 h2 m0 m1 hs0 hs1 r0 r1 rz v0 v1
  go_enter Try.func30, Try.ntmps30
  go_wp2_with fail
  refine hD.out.mono ?_
  rintro e w3 ⟨rfl, q3, m3⟩
  obtain ⟨hs0, hs1, r0, r1, rz, v0, v1⟩ := hid.out
  clear hid
  have mm3 : Mv (fun k => k = g) w w3 := (m1H.out.mono (fun _ _ h => h.elim)).trans' m3
  have d0 := m3.cell (a := ⟨b, o, none⟩) hgb c1
  have z0 := (mm3.froz (a := ⟨b, o, none⟩) hgb hbl).trans hfH.out
  have r0' := m3.cell (a := ⟨w.heap.size, 0, none⟩) (by show w.heap.size ≠ g; omega) r0
  have r1' := m3.cell (a := ⟨w.heap.size, 1, none⟩) (by show w.heap.size ≠ g; omega) r1
  have rz0 := (m3.froz (a := ⟨w.heap.size, 0, none⟩) (by show w.heap.size ≠ g; omega) (by show w.heap.size < _; omega)).trans (rz 0)
  have rz1 := (m3.froz (a := ⟨w.heap.size, 1, none⟩) (by show w.heap.size ≠ g; omega) (by show w.heap.size < _; omega)).trans (rz 1)
  have v0' := m3.cell (a := ⟨W0.heap.size, 0, none⟩) (by show W0.heap.size ≠ g; omega) v0
  have v1' := m3.cell (a := ⟨W0.heap.size, 1, none⟩) (by show W0.heap.size ≠ g; omega) v1
  obtain ⟨n, hn⟩ : ∃ n, w.heap.size = n := ⟨_, rfl⟩
  rw [hn] at r0' r1' rz0 rz1 hs0 hbl hg ⊢
  rw [hs0] at v0' v1' ⊢
  have T3 : Tn b o (.slice (some ⟨g, q, none⟩) (nr + 1) cap) (.slice (some ⟨g, q, none⟩) nr cap) w (w3.setCell ⟨b, o, none⟩ (.slice (some ⟨g, q, none⟩) nr cap)) := Tn.make hcH.out hnbH.out (mm3.mono (fun k _ e => by rw [e]; rfl)) (.inl rfl)
  have fin : Hid (∃ sv', Tn b o (.slice (some ⟨g, q, none⟩) (nr + 1) cap) sv' w (((w3.setCell ⟨b, o, none⟩ (.slice (some ⟨g, q, none⟩) nr cap)).setCell ⟨n, 0, none⟩ (.int .i64 i)).setCell ⟨n, 1, none⟩ (.string s)) ∧ QS (((w3.setCell ⟨b, o, none⟩ (.slice (some ⟨g, q, none⟩) nr cap)).setCell ⟨n, 0, none⟩ (.int .i64 i)).setCell ⟨n, 1, none⟩ (.string s)) sv' r) := by
    refine ⟨_, T3.below (by omega) ?_, ?_⟩
    · rw [hn]; exact ((Below.refl n _).setCell (by exact Nat.le_refl n) _).setCell (by exact Nat.le_refl n) _
    · exact ((q3.set (b := b) (o := o) (fun e => hnbH.out e) _).set (b := n) (o := 0) (fun e => by injection e with e; exact absurd e (Nat.ne_of_lt hg)) _).set (b := n) (o := 1) (fun e => by injection e with e; exact absurd e (Nat.ne_of_lt hg)) _
  clear T3 mm3 m3 q3 hD hnbH hcH hfH m1H c0 c1 k0 k1 r0 r1 rz v0 v1 hW0 hW1
  have hbn : b ≠ n := by omega
  have hbn1 : b ≠ n + 1 := by omega
  have hnn : n ≠ n + 1 := by omega
  obtain ⟨w5, hw5⟩ : ∃ w5, w3.setCell ⟨b, o, none⟩ (.slice (some ⟨g, q, none⟩) nr cap) = w5 := ⟨_, rfl⟩
  have g0 : w5.cell? ⟨n, 0, none⟩ = some (.int .i64 0) := by rw [← hw5]; exact (World.cell?_setCell_other _ _ _ _ (by simp; try omega)).trans r0'
  have g1 : w5.cell? ⟨n, 1, none⟩ = some (.string ⟨#[]⟩) := by rw [← hw5]; exact (World.cell?_setCell_other _ _ _ _ (by simp; try omega)).trans r1'
  have g2 : (w5.setCell ⟨n, 0, none⟩ (.int .i64 i)).cell? ⟨n, 0, none⟩ = some (.int .i64 i) := World.cell?_setCell_same' _ _ _ (by rw [g0]; rfl)
  have g3 : ((w5.setCell ⟨n, 0, none⟩ (.int .i64 i)).setCell ⟨n, 1, none⟩ (.string s)).cell? ⟨n, 1, none⟩ = some (.string s) := World.cell?_setCell_same' _ _ _ (by rw [World.cell?_setCell_other _ _ _ _ (by simp), g1]; rfl)
  have y0 : w5.frozen? ⟨n, 0, none⟩ = false := by rw [← hw5, World.frozen?_setCell]; exact rz0
  have y1 : w5.frozen? ⟨n, 1, none⟩ = false := by rw [← hw5, World.frozen?_setCell]; exact rz1
  have x0 : w5.cell? ⟨n + 1, 0, none⟩ = some (.int .i64 i) := by rw [← hw5]; exact (World.cell?_setCell_other _ _ _ _ (by simp; try omega)).trans v0'
  have x1 : w5.cell? ⟨n + 1, 1, none⟩ = some (.string s) := by rw [← hw5]; exact (World.cell?_setCell_other _ _ _ _ (by simp; try omega)).trans v1'
  rw [hw5] at fin
  go_wp2_with (rw [hw5])
  exact bodyPost_ret (v := .tuple #[.agg #[.int .i64 i, .string s], .bool true]) (by simp [results, Try.results30, go_sem, g2, g3]) rfl ⟨rfl, fin.out⟩
end Go.Proofs.Ytppbdamlhcmlcaa
