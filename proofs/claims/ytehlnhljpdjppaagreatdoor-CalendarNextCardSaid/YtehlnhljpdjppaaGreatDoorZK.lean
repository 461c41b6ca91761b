import Derived.Test.YtehlnhljpdjppaaGreatDoorZG
import Derived.Test.YtehlnhljpdjppaaGreatDoorZI
/- The contract of package calendar's Matches. -/
namespace Go.Proofs.YtehlnhljpdjppaaGreatDoor
open Go.RowKit
theorem idx6n {w : World} (cs : Array Value) (i : Int) (h0 : 0 ≤ i) (h1 : i < 6) (hs : cs.size = 6) : (Instr.index 55 (.agg cs) (.int .i64 i)).run Tryz.prog w = .ok (cs.getD i.toNat undef) w := by
  have hz : Tryz.t3.size = 1 := by kernel_rfl
  have hl : i.toNat < cs.size := by omega
  simp [Instr.index, run_underlying und6i, asIntOf, h0, h1, go_sem, part, sizeOf]
  rw [hz, Nat.mul_one, Array.getElem?_eq_getElem hl]
  simp [go_sem]
/-- The numbers of a moment. -/
def nmOf (y m d h mi s : Int) : Nat → Int
  | 0 => y
  | 1 => m
  | 2 => d
  | 3 => h
  | 4 => mi
  | _ => s
def inOf (c : Cal.C7) (y m d h mi s : Int) (k : Nat) : Bool := Cal.inL (lstOf c k) (nmOf y m d h mi s k)
/-- Does a moment match? -/
def mtM (c : Cal.C7) (y m d h mi s : Int) : Bool := Cal.inL c.year y && (Cal.inL c.month m && (Cal.inL c.day d && (Cal.onW c.week (Civ.num y m d) && (Cal.inL c.hour h && (Cal.inL c.minute mi && Cal.inL c.second s)))))
theorem mtM_all {c : Cal.C7} {y m d h mi s : Int} (hj : ∀ j, j < 6 → inOf c y m d h mi s j = true) : mtM c y m d h mi s = Cal.onW c.week (Civ.num y m d) := by
  have a0 : Cal.inL c.year y = true := hj 0 (by omega)
  have a1 : Cal.inL c.month m = true := hj 1 (by omega)
  have a2 : Cal.inL c.day d = true := hj 2 (by omega)
  have a3 : Cal.inL c.hour h = true := hj 3 (by omega)
  have a4 : Cal.inL c.minute mi = true := hj 4 (by omega)
  have a5 : Cal.inL c.second s = true := hj 5 (by omega)
  unfold mtM; rw [a0, a1, a2, a3, a4, a5]; simp
theorem mtM_not {c : Cal.C7} {y m d h mi s : Int} {k : Nat} (hk : k < 6) (hn : inOf c y m d h mi s k = false) : mtM c y m d h mi s = false := by
  have hk' : k = 0 ∨ k = 1 ∨ k = 2 ∨ k = 3 ∨ k = 4 ∨ k = 5 := by omega
  unfold mtM
  rcases hk' with rfl | rfl | rfl | rfl | rfl | rfl
  · rw [show Cal.inL c.year y = false from hn]; rfl
  · rw [show Cal.inL c.month m = false from hn]; simp
  · rw [show Cal.inL c.day d = false from hn]; simp
  · rw [show Cal.inL c.hour h = false from hn]; simp
  · rw [show Cal.inL c.minute mi = false from hn]; simp
  · rw [show Cal.inL c.second s = false from hn]; simp
theorem CalPin.at {E : Nat → Prop} {W : World} {S : Nat → Sl} {c : Cal.C7} (h : CalPin E W S c) (k : Nat) (hk : k < 6) : Pin E W (slv (S (k + 1))) (lstOf c k) := by
  match k, hk with
  | 0, _ => exact h.p1
  | 1, _ => exact h.p2
  | 2, _ => exact h.p3
  | 3, _ => exact h.p4
  | 4, _ => exact h.p5
  | 5, _ => exact h.p6
theorem CalOk.at {c : Cal.C7} (h : CalOk c) (k : Nat) (hk : k < 6) : okL (lstOf c k) := by
  match k, hk with
  | 0, _ => exact h.o1
  | 1, _ => exact h.o2
  | 2, _ => exact h.o3
  | 3, _ => exact h.o4
  | 4, _ => exact h.o5
  | 5, _ => exact h.o6
theorem nm_bd {y m d h mi s : Int} (hv : Civ.vldB y m d = true) (ht : Civ.timB h mi s = true) (k : Nat) : 0 ≤ nmOf y m d h mi s k ∧ nmOf y m d h mi s k ≤ 100000 := by
  obtain ⟨a, b, e, f, g, i⟩ := Civ.vldB_iff.1 hv
  obtain ⟨t1, t2, t3, t4, t5, t6⟩ := Civ.timB_iff.1 ht
  have := Civ.dim_bd y m
  unfold nmOf
  split <;> omega
set_option maxRecDepth 100000 in
set_option maxHeartbeats 4000000 in
theorem matches_off (S : Nat → Sl) (y m d h mi s : Int) (w : World) (hg : GlP w) (hb : Civ.vldB y m d = false ∨ Civ.timB h mi s = false) :
    Calls Tryz.prog 8 #[aggC S, momV y m d h mi s] w fun e w' => e = .returned (.bool false) ∧ Below w.heap.size w w' := by
  obtain ⟨W, hW⟩ : ∃ W, (w.alloc (.cells #[slv (S 0), slv (S 1), slv (S 2), slv (S 3), slv (S 4), slv (S 5), slv (S 6)] 24)).alloc (.cells #[.int .i64 y, .int .i64 m, .int .i64 d, .int .i64 h, .int .i64 mi, .int .i64 s] 28) = W := ⟨_, rfl⟩
  have hB0 : Below w.heap.size w W := by rw [← hW]; exact ((Below.refl _ _).alloc (Nat.le_refl _) _).alloc (by simp) _
  have hgW := hg.below hB0
  have hU := unix_no y m d h mi s W hgW.gl.len hb
  have v0 : W.cell? ⟨w.heap.size + 1, 0, none⟩ = some (.int .i64 y) := by rw [← hW]; exact cell_at (by simp) rfl
  have v1 : W.cell? ⟨w.heap.size + 1, 1, none⟩ = some (.int .i64 m) := by rw [← hW]; exact cell_at (by simp) rfl
  have v2 : W.cell? ⟨w.heap.size + 1, 2, none⟩ = some (.int .i64 d) := by rw [← hW]; exact cell_at (by simp) rfl
  have v3 : W.cell? ⟨w.heap.size + 1, 3, none⟩ = some (.int .i64 h) := by rw [← hW]; exact cell_at (by simp) rfl
  have v4 : W.cell? ⟨w.heap.size + 1, 4, none⟩ = some (.int .i64 mi) := by rw [← hW]; exact cell_at (by simp) rfl
  have v5 : W.cell? ⟨w.heap.size + 1, 5, none⟩ = some (.int .i64 s) := by rw [← hW]; exact cell_at (by simp) rfl
  clear hb hgW hg
  go_enter Tryz.func8, Tryz.ntmps8
  go_wp2_with (rw [hW])
  refine hU.mono ?_
  rintro e w1 ⟨rfl, hb1⟩
  have hz := hB0.trans (hb1.mono hB0.size)
  clear hU hb1 hB0
  go_wp2_with fail
  go_ret
  exact ⟨rfl, hz⟩
set_option maxRecDepth 100000 in
set_option maxHeartbeats 4000000 in
theorem matches_on (S : Nat → Sl) (c : Cal.C7) (y m d h mi s : Int) (w : World) (hp : CalPin (fun _ => False) w S c) (hg : GlP w) (hv : Civ.vldB y m d = true) (ht : Civ.timB h mi s = true) :
    Calls Tryz.prog 8 #[aggC S, momV y m d h mi s] w fun e w' => e = .returned (.bool (isB c && mtM c y m d h mi s)) ∧ Below w.heap.size w w' := by
  obtain ⟨W, hW⟩ : ∃ W, (w.alloc (.cells #[slv (S 0), slv (S 1), slv (S 2), slv (S 3), slv (S 4), slv (S 5), slv (S 6)] 24)).alloc (.cells #[.int .i64 y, .int .i64 m, .int .i64 d, .int .i64 h, .int .i64 mi, .int .i64 s] 28) = W := ⟨_, rfl⟩
  have hB0 : Below w.heap.size w W := by rw [← hW]; exact ((Below.refl _ _).alloc (Nat.le_refl _) _).alloc (by simp) _
  have hgW := hg.below hB0
  have hU := unix_yes y m d h mi s W hgW.gl.len hv ht
  have k0 : ∀ j u, #[slv (S 0), slv (S 1), slv (S 2), slv (S 3), slv (S 4), slv (S 5), slv (S 6)][j]? = some u → W.cell? ⟨w.heap.size, j, none⟩ = some u := fun j u hj => by
    rw [← hW]; exact (((Below.refl _ _).alloc (Nat.le_refl _) _).cell (p := ⟨w.heap.size, j, none⟩) (by simp)).trans (cell_at rfl hj)
  have k1 : ∀ j u, #[Value.int .i64 y, .int .i64 m, .int .i64 d, .int .i64 h, .int .i64 mi, .int .i64 s][j]? = some u → W.cell? ⟨w.heap.size + 1, j, none⟩ = some u := fun j u hj => by
    rw [← hW]; exact cell_at (by simp) hj
  have hwl : w.heap.size + 1 < W.heap.size := cell_lt (k1 0 _ rfl)
  have v0 : W.cell? ⟨w.heap.size + 1, 0, none⟩ = some (.int .i64 y) := k1 0 _ rfl
  have v1 : W.cell? ⟨w.heap.size + 1, 1, none⟩ = some (.int .i64 m) := k1 1 _ rfl
  have v2 : W.cell? ⟨w.heap.size + 1, 2, none⟩ = some (.int .i64 d) := k1 2 _ rfl
  have v3 : W.cell? ⟨w.heap.size + 1, 3, none⟩ = some (.int .i64 h) := k1 3 _ rfl
  have v4 : W.cell? ⟨w.heap.size + 1, 4, none⟩ = some (.int .i64 mi) := k1 4 _ rfl
  have v5 : W.cell? ⟨w.heap.size + 1, 5, none⟩ = some (.int .i64 s) := k1 5 _ rfl
  have hpW := hp.below hB0
  have k0H := hidI2 k0
  have k1H := hidI2 k1
  clear k0 k1 hg hp
  go_enter Tryz.func8, Tryz.ntmps8
  go_wp2_with (rw [hW])
  refine hU.mono ?_
  rintro e w1 ⟨rfl, hb1⟩
  have hz1 := hB0.trans (hb1.mono hB0.size)
  have hs1 : w.heap.size + 1 < w1.heap.size := Nat.lt_of_lt_of_le hwl hb1.size
  have c1 : ∀ j u, #[slv (S 0), slv (S 1), slv (S 2), slv (S 3), slv (S 4), slv (S 5), slv (S 6)][j]? = some u → w1.cell? ⟨w.heap.size, j, none⟩ = some u := fun j u hj => (hb1.cell (p := ⟨w.heap.size, j, none⟩) (by show w.heap.size < _; omega)).trans (k0H.out j u hj)
  have d1 : ∀ j u, #[Value.int .i64 y, .int .i64 m, .int .i64 d, .int .i64 h, .int .i64 mi, .int .i64 s][j]? = some u → w1.cell? ⟨w.heap.size + 1, j, none⟩ = some u := fun j u hj => (hb1.cell (p := ⟨w.heap.size + 1, j, none⟩) hwl).trans (k1H.out j u hj)
  have hg1 := hgW.below hb1
  have hp1 := hpW.below hb1
  have hIs := isC_any S c w1 hp1 hg1.gl
  have e0 : w1.cell? ⟨w.heap.size, 0, none⟩ = some (slv (S 0)) := c1 0 _ rfl
  have e1 : w1.cell? ⟨w.heap.size, 1, none⟩ = some (slv (S 1)) := c1 1 _ rfl
  have e2 : w1.cell? ⟨w.heap.size, 2, none⟩ = some (slv (S 2)) := c1 2 _ rfl
  have e3 : w1.cell? ⟨w.heap.size, 3, none⟩ = some (slv (S 3)) := c1 3 _ rfl
  have e4 : w1.cell? ⟨w.heap.size, 4, none⟩ = some (slv (S 4)) := c1 4 _ rfl
  have e5 : w1.cell? ⟨w.heap.size, 5, none⟩ = some (slv (S 5)) := c1 5 _ rfl
  have e6 : w1.cell? ⟨w.heap.size, 6, none⟩ = some (slv (S 6)) := c1 6 _ rfl
  have c1H := hidI2 c1
  have d1H := hidI2 d1
  clear c1 d1 k0H k1H v0 v1 v2 v3 v4 v5 hU hb1 hgW hpW hB0 hW hwl
  go_wp2_with fail
  refine hIs.mono ?_
  rintro e w2 ⟨rfl, hb2⟩
  have hz2 := hz1.trans (hb2.mono hz1.size)
  have hg2 := hg1.below hb2
  have hp2 := hp1.below hb2
  have hs2 : w.heap.size + 1 < w2.heap.size := Nat.lt_of_lt_of_le hs1 hb2.size
  have c2 : Hid (∀ j u, #[slv (S 0), slv (S 1), slv (S 2), slv (S 3), slv (S 4), slv (S 5), slv (S 6)][j]? = some u → w2.cell? ⟨w.heap.size, j, none⟩ = some u) := fun j u hj => (hb2.cell (p := ⟨w.heap.size, j, none⟩) (by show w.heap.size < _; omega)).trans (c1H.out j u hj)
  have d2 : Hid (∀ j u, #[Value.int .i64 y, .int .i64 m, .int .i64 d, .int .i64 h, .int .i64 mi, .int .i64 s][j]? = some u → w2.cell? ⟨w.heap.size + 1, j, none⟩ = some u) := fun j u hj => (hb2.cell (p := ⟨w.heap.size + 1, j, none⟩) hs1).trans (d1H.out j u hj)
  clear hIs e0 e1 e2 e3 e4 e5 e6 c1H d1H hz1 hs1 hg1 hp1 hb2
  cases hI : isB c with
  | false =>
    have hIH := hidI2 hI
    clear hI
    go_wp2_with fail
    go_ret
    exact ⟨ret_bool (by rw [hIH.out]; rfl), hz2⟩
  | true =>
    have hok := isB_ok hI
    have hIH := hidI2 hI
    have e0 : w2.cell? ⟨w.heap.size, 0, none⟩ = some (slv (S 0)) := c2.out 0 _ rfl
    have e1 : w2.cell? ⟨w.heap.size, 1, none⟩ = some (slv (S 1)) := c2.out 1 _ rfl
    have e2 : w2.cell? ⟨w.heap.size, 2, none⟩ = some (slv (S 2)) := c2.out 2 _ rfl
    have e3 : w2.cell? ⟨w.heap.size, 3, none⟩ = some (slv (S 3)) := c2.out 3 _ rfl
    have e4 : w2.cell? ⟨w.heap.size, 4, none⟩ = some (slv (S 4)) := c2.out 4 _ rfl
    have e5 : w2.cell? ⟨w.heap.size, 5, none⟩ = some (slv (S 5)) := c2.out 5 _ rfl
    have e6 : w2.cell? ⟨w.heap.size, 6, none⟩ = some (slv (S 6)) := c2.out 6 _ rfl
    clear hI
    go_wp2_with fail
    refine (fields_any S w2).mono ?_
    rintro e w3 ⟨rfl, hb3⟩
    have hz3 := hz2.trans (hb3.mono hz2.size)
    have hs3 : w.heap.size + 1 < w3.heap.size := Nat.lt_of_lt_of_le hs2 hb3.size
    obtain ⟨U, hU⟩ : ∃ U, w3.alloc (.cells #[slv (S 1), slv (S 2), slv (S 3), slv (S 4), slv (S 5), slv (S 6)] 53) = U := ⟨_, rfl⟩
    have hbU : Below w3.heap.size w3 U := by rw [← hU]; exact (Below.refl _ _).alloc (Nat.le_refl _) _
    have hzU := hz3.trans (hbU.mono hz3.size)
    have hgU := (hg2.below hb3).below hbU
    have hpU := (hp2.below hb3).below hbU
    have cU : U.cell? ⟨w.heap.size, 0, none⟩ = some (slv (S 0)) := (hbU.cell (p := ⟨w.heap.size, 0, none⟩) (by show w.heap.size < _; omega)).trans ((hb3.cell (p := ⟨w.heap.size, 0, none⟩) (by show w.heap.size < _; omega)).trans e0)
    have dU : Hid (∀ j u, #[Value.int .i64 y, .int .i64 m, .int .i64 d, .int .i64 h, .int .i64 mi, .int .i64 s][j]? = some u → U.cell? ⟨w.heap.size + 1, j, none⟩ = some u) := fun j u hj => (hbU.cell (p := ⟨w.heap.size + 1, j, none⟩) hs3).trans ((hb3.cell (p := ⟨w.heap.size + 1, j, none⟩) hs2).trans (d2.out j u hj))
    have lU : Hid (∀ j, j < 6 → U.cell? ⟨w3.heap.size, j, none⟩ = some (slv (S (j + 1)))) := fun j hj => by
      rw [← hU]
      have hj' : j = 0 ∨ j = 1 ∨ j = 2 ∨ j = 3 ∨ j = 4 ∨ j = 5 := by omega
      rcases hj' with rfl | rfl | rfl | rfl | rfl | rfl <;> exact cell_at rfl rfl
    have hsU : w3.heap.size < U.heap.size := cell_lt (lU.out 0 (by omega))
    have v0 : U.cell? ⟨w.heap.size + 1, 0, none⟩ = some (.int .i64 y) := dU.out 0 _ rfl
    have v1 : U.cell? ⟨w.heap.size + 1, 1, none⟩ = some (.int .i64 m) := dU.out 1 _ rfl
    have v2 : U.cell? ⟨w.heap.size + 1, 2, none⟩ = some (.int .i64 d) := dU.out 2 _ rfl
    have v3 : U.cell? ⟨w.heap.size + 1, 3, none⟩ = some (.int .i64 h) := dU.out 3 _ rfl
    have v4 : U.cell? ⟨w.heap.size + 1, 4, none⟩ = some (.int .i64 mi) := dU.out 4 _ rfl
    have v5 : U.cell? ⟨w.heap.size + 1, 5, none⟩ = some (.int .i64 s) := dU.out 5 _ rfl
    clear e0 e1 e2 e3 e4 e5 e6 c2 d2 hb3 hbU hz2 hz3 hg2 hp2
    go_wp2_with (rw [hU])
    go_loopw [42] (fun i wr => ∃ (k : Nat) (z : Int), k ≤ 6 ∧ z = k ∧ i = .int .i64 z ∧ (∀ j, j < k → inOf c y m d h mi s j = true) ∧ Below U.heap.size U wr) (fun i _ => 6 - (intOf i).toNat)
    case atStart => exact ⟨0, 0, by omega, rfl, rfl, fun j hj => by omega, Below.refl _ _⟩
    case round =>
      obtain ⟨k, z, hk, hz, rfl, hno, hb⟩ := hrel
      have hbw : Below w.heap.size w wr := hzU.trans (hb.mono hzU.size)
      have hpr := hpU.below hb
      have hgr := hgU.below hb
      clear v0 v1 v2 v3 v4 v5
      by_cases hk6 : k < 6
      · have hkz : (k = 0 ∧ z = 0) ∨ (k = 1 ∧ z = 1) ∨ (k = 2 ∧ z = 2) ∨ (k = 3 ∧ z = 3) ∨ (k = 4 ∧ z = 4) ∨ (k = 5 ∧ z = 5) := by omega
        have hcall := isIn_any (lstOf c k) (nmOf y m d h mi s k) (slv (S (k + 1))) wr (hpr.at k hk6) (hok.at k hk6) (nm_bd hv ht k).1 (nm_bd hv ht k).2
        have hlc : wr.cell? ⟨w3.heap.size, k, none⟩ = some (slv (S (k + 1))) := (hb.cell (p := ⟨w3.heap.size, k, none⟩) hsU).trans (lU.out k hk6)
        have hix : ∀ W : World, (Instr.index 55 (.agg #[.int .i64 y, .int .i64 m, .int .i64 d, .int .i64 h, .int .i64 mi, .int .i64 s]) (.int .i64 z)).run Tryz.prog W = .ok (.int .i64 (nmOf y m d h mi s k)) W := fun W => by
          rw [idx6n _ z (by omega) (by omega) rfl]
          rcases hkz with ⟨rfl, rfl⟩ | ⟨rfl, rfl⟩ | ⟨rfl, rfl⟩ | ⟨rfl, rfl⟩ | ⟨rfl, rfl⟩ | ⟨rfl, rfl⟩ <;> rfl
        cases hin : inOf c y m d h mi s k
        · have hF : Hid ((isB c && mtM c y m d h mi s) = false) := by show _ = _; rw [mtM_not hk6 hin, Bool.and_false]
          have hin' : Cal.inL (lstOf c k) (nmOf y m d h mi s k) = false := hin
          rw [hin'] at hcall
          have hcallH := hidI2 hcall
          generalize nmOf y m d h mi s k = N at *
          clear hno hcall hin hin' hz
          rcases hkz with ⟨rfl, rfl⟩ | ⟨rfl, rfl⟩ | ⟨rfl, rfl⟩ | ⟨rfl, rfl⟩ | ⟨rfl, rfl⟩ | ⟨rfl, rfl⟩
          all_goals
            simp only [Nat.reduceAdd] at hlc
            go_wp2_with fail
            refine hcallH.out.mono ?_
            rintro e w4 ⟨rfl, hb4⟩
            go_wp2_with fail
            go_ret
            exact ⟨ret_bool hF.out.symm, hbw.trans (hb4.mono hbw.size)⟩
        · have hN : Hid (∀ j, j < k + 1 → inOf c y m d h mi s j = true) := fun j hj => by
            by_cases e : j < k
            · exact hno j e
            · obtain rfl : j = k := by omega
              exact hin
          have hin' : Cal.inL (lstOf c k) (nmOf y m d h mi s k) = true := hin
          rw [hin'] at hcall
          have hcallH := hidI2 hcall
          generalize nmOf y m d h mi s k = N at *
          clear hno hcall hin hin' hz
          rcases hkz with ⟨rfl, rfl⟩ | ⟨rfl, rfl⟩ | ⟨rfl, rfl⟩ | ⟨rfl, rfl⟩ | ⟨rfl, rfl⟩ | ⟨rfl, rfl⟩
          all_goals
            simp only [Nat.reduceAdd] at hlc
            go_wp2_with fail
            refine hcallH.out.mono ?_
            rintro e w4 ⟨rfl, hb4⟩
            go_wp2_with fail
            exact ⟨⟨_, _, (by decide), rfl, rfl, hN.out, hb.trans (hb4.mono hb.size)⟩, by simp [intOf]⟩
      · obtain rfl : k = 6 := by omega
        obtain rfl : z = 6 := by omega
        have hM : Hid ((isB c && mtM c y m d h mi s) = Cal.onW c.week (Civ.num y m d)) := by show _ = _; rw [hIH.out, mtM_all hno, Bool.true_and]
        have x0 : wr.cell? ⟨w.heap.size, 0, none⟩ = some (slv (S 0)) := (hb.cell (p := ⟨w.heap.size, 0, none⟩) (by show w.heap.size < _; omega)).trans cU
        have xv : ∀ j u, #[Value.int .i64 y, .int .i64 m, .int .i64 d, .int .i64 h, .int .i64 mi, .int .i64 s][j]? = some u → wr.cell? ⟨w.heap.size + 1, j, none⟩ = some u := fun j u hj => (hb.cell (p := ⟨w.heap.size + 1, j, none⟩) (by show w.heap.size + 1 < _; omega)).trans (dU.out j u hj)
        have x1 : wr.cell? ⟨w.heap.size + 1, 0, none⟩ = some (.int .i64 y) := xv 0 _ rfl
        have x2 : wr.cell? ⟨w.heap.size + 1, 1, none⟩ = some (.int .i64 m) := xv 1 _ rfl
        have x3 : wr.cell? ⟨w.heap.size + 1, 2, none⟩ = some (.int .i64 d) := xv 2 _ rfl
        have hdy := days_yes y m d wr hgr.gl.len hv
        clear hno hz hk6 hk xv
        go_wp2_with fail
        refine hdy.mono ?_
        rintro e w4 ⟨rfl, hb4⟩
        have x4 := (hb4.cell (p := ⟨w.heap.size, 0, none⟩) (cell_lt x0)).trans x0
        have hbz := hbw.trans (hb4.mono hbw.size)
        have hoW := onW_any c.week (Civ.num y m d) (slv (S 0)) w4 (hpr.p0.below hb4) hok.o0
        have hoWH := hidI2 hoW
        clear hdy x1 x2 x3 x0 hoW
        go_wp2_with fail
        refine hoWH.out.mono ?_
        rintro e w5 ⟨rfl, hb5⟩
        have hbq := hbz.trans (hb5.mono hbz.size)
        clear hb5 hoWH
        go_wp2_with fail
        go_ret
        exact ⟨ret_bool hM.out.symm, hbq⟩
end Go.Proofs.YtehlnhljpdjppaaGreatDoor
