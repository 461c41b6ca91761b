import Derived.Test.YtehlnhljpdjppaaGreatDoorZK
import Derived.Test.YtehlnhljpdjppaaGreatDoorZL
import Derived.Test.YtehlnhljpdjppaaGreatDoorZM
/- Contracts of the reference's calendar: fits, bounds, lists, In. -/
namespace Go.Proofs.YtehlnhljpdjppaaGreatDoor
open Go.RowKit
set_option maxHeartbeats 2000000 in
theorem rfits_any (q : Part) (lo hi : Int) (w : World) :
    Calls Tryz.prog 39 #[aggP q, .int .i64 lo, .int .i64 hi] w fun e w' => e = .returned (.bool (fitsB q lo hi)) ∧ Below w.heap.size w w' := by
  obtain ⟨a, f, t, s⟩ := q
  dsimp only [aggP]
  cases a
  all_goals
    go_enter Tryz.func39, Tryz.ntmps39
    go_wp2
  all_goals go_ret
  all_goals refine ⟨ret_bool ?_, (Below.refl _ _).alloc (Nat.le_refl _) _⟩
  all_goals (unfold fitsB; rw [Bool.eq_iff_iff]; simp_all)
  all_goals (intros; omega)
theorem below_dn {w w' : World} {m : Nat} (h : Below m w w') (n : Nat) : Below m w (w'.drewN n) := ⟨h.os, h.tape, h.output, h.size, h.block⟩
def rlo : Nat → Int
  | 0 => 0
  | 1 => 1970
  | 2 => 1
  | 3 => 1
  | _ => 0
def rhi : Nat → Int
  | 0 => 6
  | 1 => 2200
  | 2 => 12
  | 3 => 31
  | 4 => 23
  | _ => 59
set_option maxRecDepth 100000 in
set_option maxHeartbeats 2000000 in
theorem rbounds_any (k : Nat) (hk : k < 7) (w : World) :
    Calls Tryz.prog 38 #[.int .i64 k] w fun e w' => e = .returned (.tuple #[.int .i64 (rlo k), .int .i64 (rhi k)]) ∧ Below w.heap.size w w' := by
  have hk' : k = 0 ∨ k = 1 ∨ k = 2 ∨ k = 3 ∨ k = 4 ∨ k = 5 ∨ k = 6 := by omega
  rcases hk' with rfl | rfl | rfl | rfl | rfl | rfl | rfl
  all_goals
    go_enter Tryz.func38, Tryz.ntmps38
    go_wp2_with fail
    go_quiet (fail)
    go_wp2_with fail
    go_ret2
    exact ⟨rfl, below_dn (((Below.refl _ _).alloc (Nat.le_refl _) _).alloc (by simp) _) _⟩
set_option maxRecDepth 100000 in
set_option maxHeartbeats 2000000 in
theorem rlists_any (S : Nat → Sl) (w : World) :
    Calls Tryz.prog 37 #[aggC S] w fun e w' => e = .returned (.agg #[slv (S 0), slv (S 1), slv (S 2), slv (S 3), slv (S 4), slv (S 5), slv (S 6)]) ∧ Below w.heap.size w w' := by
  go_enter Tryz.func37, Tryz.ntmps37
  go_wp2_with fail
  exact bodyPost_ret (v := .agg #[slv (S 0), slv (S 1), slv (S 2), slv (S 3), slv (S 4), slv (S 5), slv (S 6)]) (by simp [results, Tryz.results37, go_sem]) rfl ⟨rfl, ((Below.refl _ _).alloc (Nat.le_refl _) _).alloc (by simp) _⟩
set_option maxRecDepth 100000 in
set_option maxHeartbeats 4000000 in
theorem rIn_any (ps : List Part) (n : Int) (v : Value) (w : World) (hp : Pin (fun _ => False) w v ps) (hq : okL ps) (h0 : 0 ≤ n) (h1 : n ≤ 100000) :
    Calls Tryz.prog 17 #[v, .int .i64 n] w fun e w' => e = .returned (.bool (Cal.inL ps n)) ∧ Below w.heap.size w w' := by
  have hp' := hp
  obtain ⟨p, cap, rfl, hl, hcell⟩ := hp'
  go_enter Tryz.func17, Tryz.ntmps17
  go_wp2_with fail
  go_loopw [5] (fun i wr => ∃ k : Nat, k ≤ ps.length ∧ i = .int .i64 k ∧ Hid (∀ j, j < k → ∀ q, ps[j]? = some q → Cal.inP q n = false) ∧ Below w.heap.size w wr) (fun i _ => ps.length - (intOf i).toNat)
  case atStart => exact ⟨0, by omega, rfl, fun j hj => by omega, Below.refl _ _⟩
  case round =>
    obtain ⟨k, hk, rfl, hno, hb⟩ := hrel
    by_cases hkl : k < ps.length
    · obtain ⟨q, hqk⟩ : ∃ q, ps[k]? = some q := ⟨_, List.getElem?_eq_getElem hkl⟩
      have hpr := hp.below hb
      obtain ⟨p', cap', hv', _, hcell'⟩ := hpr
      obtain ⟨b, o, rfl, _, c0, c1, c2, c3⟩ := hcell' k q hqk
      cases hv'
      obtain ⟨f0, f1, t0, t1, s0, s1⟩ := hq q (List.mem_of_getElem? hqk)
      have yes : Hid (Cal.inP q n = true → Cal.inL ps n = true) := fun h => by unfold Cal.inL; exact List.any_eq_true.2 ⟨q, List.mem_of_getElem? hqk, h⟩
      have no : Hid (Cal.inP q n = false → ∀ j, j < k + 1 → ∀ q', ps[j]? = some q' → Cal.inP q' n = false) := fun h j hj q' hq' => by
        by_cases hjk : j < k
        · exact hno.out j hjk q' hq'
        · obtain rfl : j = k := by omega
          rw [hqk] at hq'; cases hq'; exact h
      have hbA : Hid (∀ o : Obj, Below w.heap.size w (wr.alloc o)) := fun o => hb.alloc hb.size o
      obtain ⟨a, f, t, s⟩ := q
      simp only at f0 f1 t0 t1 s0 s1 c0 c1 c2 c3
      clear hcell hcell' hqk hp hb hno
      cases a
      all_goals
        go_wp2_with fail
      all_goals first
        | (go_ret; exact ⟨ret_bool (yes.out (by clear yes no hbA; unfold Cal.inP; simp_all)).symm, hbA.out _⟩)
        | exact ⟨⟨k + 1, by omega, by go_num, no.out (by clear yes no hbA; unfold Cal.inP; simp_all <;> (intros; omega)), hbA.out _⟩, by simp [intOf]; omega⟩
    · obtain rfl : k = ps.length := by omega
      go_wp2_with fail
      go_ret
      exact ⟨ret_bool (inL_upto hno.out (Nat.le_refl _)).symm, hb⟩
end Go.Proofs.YtehlnhljpdjppaaGreatDoor
/- The contract of the reference's Is. -/
namespace Go.Proofs.YtehlnhljpdjppaaGreatDoor
open Go.RowKit
def lst7 (c : Cal.C7) : Nat → List Part
  | 0 => c.week
  | k + 1 => lstOf c k
def bad7 (i n : Nat) (q : Part) : Bool := badP n (rlo i) (rhi i) q || (decide (i = 0) && wkP q)
def ok7 (c : Cal.C7) (i : Nat) : Bool := decide ((lst7 c i).length ≤ 12) && ((decide (i = 0) || !(lst7 c i).isEmpty) && !((lst7 c i).any (bad7 i (lst7 c i).length)))
theorem any_or {l : List Part} {f g : Part → Bool} : (l.any fun q => f q || g q) = (l.any f || l.any g) := by
  induction l with
  | nil => rfl
  | cons a r ih => simp only [List.any_cons, ih]; cases f a <;> cases g a <;> simp
theorem ok7_0 (c : Cal.C7) : ok7 c 0 = isWB c.week := by
  unfold ok7 isWB isLB
  show (_ && ((true || _) && !(c.week.any fun q => badP c.week.length 0 6 q || (true && wkP q)))) = _
  rw [show (fun q => badP c.week.length 0 6 q || (true && wkP q)) = fun q => badP c.week.length 0 6 q || wkP q by funext q; simp, any_or]
  simp only [lst7, Bool.and_assoc, Bool.true_or, Bool.true_and, Bool.not_or]
  rfl
theorem ok7_s (c : Cal.C7) (k : Nat) : ok7 c (k + 1) = isFB (lstOf c k) (rlo (k + 1)) (rhi (k + 1)) := by
  unfold ok7 isFB isLB
  show (decide ((lstOf c k).length ≤ 12) && ((decide (k + 1 = 0) || !(lstOf c k).isEmpty) && !((lstOf c k).any fun q => badP (lstOf c k).length (rlo (k + 1)) (rhi (k + 1)) q || (decide (k + 1 = 0) && wkP q)))) = _
  rw [show (fun q => badP (lstOf c k).length (rlo (k + 1)) (rhi (k + 1)) q || (decide (k + 1 = 0) && wkP q)) = badP (lstOf c k).length (rlo (k + 1)) (rhi (k + 1)) by funext q; simp]
  cases decide ((lstOf c k).length ≤ 12) <;> simp
theorem isB_all {c : Cal.C7} (h : ∀ j, j < 7 → ok7 c j = true) : isB c = true := by
  have a0 := h 0 (by omega)
  have a1 := h 1 (by omega)
  have a2 := h 2 (by omega)
  have a3 := h 3 (by omega)
  have a4 := h 4 (by omega)
  have a5 := h 5 (by omega)
  have a6 := h 6 (by omega)
  rw [ok7_0] at a0
  rw [ok7_s] at a1 a2 a3 a4 a5 a6
  unfold isB
  simp only [lstOf, rlo, rhi] at a1 a2 a3 a4 a5 a6
  rw [a0, a1, a2, a3, a4, a5, a6]; rfl
theorem isB_no7 {c : Cal.C7} {j : Nat} (hj : j < 7) (h : ok7 c j = false) : isB c = false := by
  have hj' : j = 0 ∨ j = 1 ∨ j = 2 ∨ j = 3 ∨ j = 4 ∨ j = 5 ∨ j = 6 := by omega
  unfold isB
  rcases hj' with rfl | rfl | rfl | rfl | rfl | rfl | rfl
  · rw [ok7_0] at h; rw [h]; simp
  all_goals
    rw [ok7_s] at h
    simp only [lstOf, rlo, rhi] at h
    rw [h]
    simp
theorem CalPin.at7 {E : Nat → Prop} {W : World} {S : Nat → Sl} {c : Cal.C7} (h : CalPin E W S c) (k : Nat) (hk : k < 7) : Pin E W (slv (S k)) (lst7 c k) := by
  match k, hk with
  | 0, _ => exact h.p0
  | 1, _ => exact h.p1
  | 2, _ => exact h.p2
  | 3, _ => exact h.p3
  | 4, _ => exact h.p4
  | 5, _ => exact h.p5
  | 6, _ => exact h.p6
set_option maxRecDepth 100000 in
set_option maxHeartbeats 4000000 in
theorem rIsC_any (S : Nat → Sl) (c : Cal.C7) (w : World) (hp : CalPin (fun _ => False) w S c) :
    Calls Tryz.prog 15 #[aggC S] w fun e w' => e = .returned (.bool (isB c)) ∧ Below w.heap.size w w' := by
  obtain ⟨W, hW⟩ : ∃ W, w.alloc (.cells #[slv (S 0), slv (S 1), slv (S 2), slv (S 3), slv (S 4), slv (S 5), slv (S 6)] 24) = W := ⟨_, rfl⟩
  have hB0 : Below w.heap.size w W := by rw [← hW]; exact (Below.refl _ _).alloc (Nat.le_refl _) _
  have v : ∀ j u, #[slv (S 0), slv (S 1), slv (S 2), slv (S 3), slv (S 4), slv (S 5), slv (S 6)][j]? = some u → W.cell? ⟨w.heap.size, j, none⟩ = some u := fun j u hj => by rw [← hW]; exact cell_at rfl hj
  have v0 := v 0 _ rfl
  have v1 := v 1 _ rfl
  have v2 := v 2 _ rfl
  have v3 := v 3 _ rfl
  have v4 := v 4 _ rfl
  have v5 := v 5 _ rfl
  have v6 := v 6 _ rfl
  have hl := hidI2 (rlists_any S W)
  have hpH := hidI2 hp
  clear v hp
  go_enter Tryz.func15, Tryz.ntmps15
  go_wp2_with (rw [hW])
  refine hl.out.mono ?_
  rintro e w1 ⟨rfl, hb1⟩
  obtain ⟨V, hV⟩ : ∃ V, w1.alloc (.cells #[slv (S 0), slv (S 1), slv (S 2), slv (S 3), slv (S 4), slv (S 5), slv (S 6)] 76) = V := ⟨_, rfl⟩
  have hBV : Below w.heap.size w V := by rw [← hV]; exact (hB0.trans (hb1.mono hB0.size)).alloc (Nat.le_trans hB0.size hb1.size) _
  have lV : Hid (∀ j, j < 7 → V.cell? ⟨w1.heap.size, j, none⟩ = some (slv (S j))) := fun j hj => by
    rw [← hV]
    have hj' : j = 0 ∨ j = 1 ∨ j = 2 ∨ j = 3 ∨ j = 4 ∨ j = 5 ∨ j = 6 := by omega
    rcases hj' with rfl | rfl | rfl | rfl | rfl | rfl | rfl <;> exact cell_at rfl rfl
  have hBVH := hidI2 hBV
  have hlt : w1.heap.size < V.heap.size := cell_lt (lV.out 0 (by omega))
  clear hl hB0 hb1 v0 v1 v2 v3 v4 v5 v6 hBV
  go_wp2_with (rw [hV])
  go_loopw [4] (fun i wr => ∃ k : Nat, k ≤ 7 ∧ i = .int .i64 k ∧ Hid (∀ j, j < k → ok7 c j = true) ∧ Hid (Below V.heap.size V wr)) (fun i _ => 7 - (intOf i).toNat)
  case atStart => exact ⟨0, by omega, rfl, fun j hj => by omega, Below.refl _ _⟩
  case round =>
    obtain ⟨k, hk, rfl, hno, hb⟩ := hrel
    have hbw : Hid (Below w.heap.size w wr) := hBVH.out.trans (hb.out.mono hBVH.out.size)
    by_cases hk7 : k < 7
    · have hbo := hidI2 (rbounds_any k hk7 wr)
      have hkI : (k : Int) < 7 := by omega
      go_wp2_with fail
      refine hbo.out.mono ?_
      rintro e w2 ⟨rfl, hb2⟩
      have hz2 := hidI2 (hb.out.trans (hb2.mono hb.out.size))
      have hl2 : w2.cell? ⟨w1.heap.size, k, none⟩ = some (slv (S k)) := (hz2.out.cell (p := ⟨w1.heap.size, k, none⟩) hlt).trans (lV.out k hk7)
      have hw2 := hidI2 (hBVH.out.trans (hz2.out.mono hBVH.out.size))
      have hpk := hpH.out.at7 k hk7
      have hokD : Hid (ok7 c k = (decide ((lst7 c k).length ≤ 12) && ((decide (k = 0) || !(lst7 c k).isEmpty) && !((lst7 c k).any (bad7 k (lst7 c k).length))))) := rfl
      have hbadD : Hid (∀ n q, bad7 k n q = (badP n (rlo k) (rhi k) q || (decide (k = 0) && wkP q))) := fun _ _ => rfl
      have hnx : Hid (ok7 c k = true → ∀ j, j < k + 1 → ok7 c j = true) := fun h j hj => by
        by_cases e : j < k
        · exact hno.out j e
        · obtain rfl : j = k := by omega
          exact h
      have hfl : Hid (ok7 c k = false → isB c = false) := isB_no7 hk7
      obtain ⟨ps, hps⟩ : ∃ ps, lst7 c k = ps := ⟨_, rfl⟩
      rw [hps] at hpk hokD
      have hpkH := hidI2 hpk
      obtain ⟨p, cap, hv, hl1000, _⟩ := hpk
      obtain ⟨lo, hlo⟩ : ∃ lo, rlo k = lo := ⟨_, rfl⟩
      obtain ⟨hi, hhi⟩ : ∃ hi, rhi k = hi := ⟨_, rfl⟩
      rw [hlo, hhi] at hbadD ⊢
      rw [hv] at hl2
      obtain ⟨N, hN⟩ : ∃ N, ps.length = N := ⟨_, rfl⟩
      rw [hN] at hl2 hl1000
      have hNH := hidI2 hN
      have hvH := hidI2 hv
      clear hv
      clear hbo hno hb hbw hps hlo hhi hb2 hN
      by_cases h12 : 12 < N
      · have h12I : (12 : Int) < (N : Int) := by omega
        go_wp2_with fail
        go_ret
        exact ⟨ret_bool (hfl.out (by rw [hokD.out, hNH.out]; simp; omega)).symm, hw2.out⟩
      · have h12I : decide ((12 : Int) < (N : Int)) = false := by simp; omega
        by_cases hk0 : k = 0
        · subst hk0
          go_wp2_with fail
          go_loopw [7] (fun i wr2 => ∃ m : Nat, m ≤ N ∧ i = .int .i64 m ∧ Hid (∀ j, j < m → ∀ q, ps[j]? = some q → bad7 0 N q = false) ∧ Hid (Below V.heap.size V wr2)) (fun i _ => N - (intOf i).toNat)
          case atStart => exact ⟨0, by omega, rfl, fun j hj => by omega, hz2.out⟩
          case round =>
            obtain ⟨m, hm, rfl, hno2, hb2⟩ := hrel
            have hl3 : wr.cell? ⟨w1.heap.size, 0, none⟩ = some (.slice p N cap) := by
              have := (hb2.out.cell (p := ⟨w1.heap.size, 0, none⟩) hlt).trans (lV.out 0 (by omega))
              rw [this, hvH.out, hNH.out]
            have hw3 := hidI2 (hBVH.out.trans (hb2.out.mono hBVH.out.size))
            by_cases hmN : m < N
            · obtain ⟨q, hq⟩ : ∃ q, ps[m]? = some q := ⟨_, List.getElem?_eq_getElem (by rw [hNH.out]; exact hmN)⟩
              have hpr := hpkH.out.below hw3.out
              obtain ⟨p', cap', hv', _, hcell'⟩ := hpr
              obtain ⟨b, o, rfl, _, c0, c1, c2, c3⟩ := hcell' m q hq
              rw [hvH.out] at hv'
              cases hv'
              have yes : Hid (bad7 0 N q = true → isB c = false) := fun h => hfl.out (by
                rw [hokD.out, hNH.out, List.any_eq_true.2 ⟨q, List.mem_of_getElem? hq, h⟩]; simp)
              have no : Hid (bad7 0 N q = false → ∀ j, j < m + 1 → ∀ q', ps[j]? = some q' → bad7 0 N q' = false) := fun h j hj q' hq' => by
                by_cases hjk : j < m
                · exact hno2.out j hjk q' hq'
                · obtain rfl : j = m := by omega
                  rw [hq] at hq'; cases hq'; exact h
              have hbq := hbadD.out N q
              unfold badP wkP at hbq
              obtain ⟨a, f, t, s⟩ := q
              simp only at c0 c1 c2 c3 hbq
              have hF := hidI2 (rfits_any (a, f, t, s) lo hi (wr.alloc (.cells #[.bool a, .int .i64 f, .int .i64 t, .int .i64 s] 80)))
              have hbA : Hid (∀ w4, Below (wr.alloc (.cells #[.bool a, .int .i64 f, .int .i64 t, .int .i64 s] 80)).heap.size (wr.alloc (.cells #[.bool a, .int .i64 f, .int .i64 t, .int .i64 s] 80)) w4 → Below w.heap.size w w4 ∧ Below V.heap.size V w4 ∧ (w4.cell? ⟨wr.heap.size, 0, none⟩ = some (.bool a) ∧ w4.cell? ⟨wr.heap.size, 3, none⟩ = some (.int .i64 s)) ∧ w4.cell? ⟨w1.heap.size, 0, none⟩ = some (.slice (some ⟨b, o, none⟩) N cap)) := fun w4 h4 => by
                have hx := (Below.refl _ wr).alloc (Nat.le_refl _) (.cells #[.bool a, .int .i64 f, .int .i64 t, .int .i64 s] 80)
                have hy := hx.trans (h4.mono hx.size)
                exact ⟨hw3.out.trans (hy.mono hw3.out.size), hb2.out.trans (hy.mono hb2.out.size), ⟨(h4.cell (p := ⟨wr.heap.size, 0, none⟩) (by simp)).trans (cell_at rfl rfl), (h4.cell (p := ⟨wr.heap.size, 3, none⟩) (by simp)).trans (cell_at rfl rfl)⟩, (hy.cell (p := ⟨w1.heap.size, 0, none⟩) (cell_lt hl3)).trans hl3⟩
              simp only [aggP] at hF
              have hmI : (m : Int) < (N : Int) := by omega
              cases hf : fitsB (a, f, t, s) lo hi
              all_goals
                rw [hf] at hF hbq
                have hbqH := hidI2 hbq
                cases a
              all_goals
                go_wp2_with fail
                refine hF.out.mono ?_
                rintro e w4 ⟨rfl, hb4⟩
                obtain ⟨g1, g2, ⟨g3, g5⟩, g4⟩ := hbA.out w4 hb4
                have g1H := hidI2 g1
                have g2H := hidI2 g2
                go_wp2_with fail
              all_goals first
                | (go_ret; exact ⟨ret_bool (yes.out (by rw [hbqH.out]; clear hbqH yes no hbA hF g1H g2H hbq; simp_all <;> omega)).symm, g1H.out⟩)
                | exact ⟨⟨m + 1, by omega, by go_num, no.out (by rw [hbqH.out]; clear hbqH yes no hbA hF g1H g2H hbq; simp_all <;> omega), g2H⟩, by simp [intOf]; omega⟩
                | exact ⟨⟨m + 1, by omega, by go_num, no.out (by rw [hbqH.out]; clear hbqH yes no hbA hF g1H g2H hbq; simp; omega), g2H⟩, by simp [intOf]; omega⟩
            · obtain rfl : m = N := by omega
              have hmI : decide ((m : Int) < (m : Int)) = false := by simp
              have hok : Hid (ok7 c 0 = true) := by
                show _ = _
                rw [hokD.out, hNH.out, show ps.any (bad7 0 m) = false from any_upto hno2.out (by rw [hNH.out]; exact Nat.le_refl _)]
                simp; omega
              go_wp2_with fail
              first
                | exact ⟨⟨0 + 1, by omega, by go_num, hnx.out hok.out, hb2⟩, by simp [intOf]; omega⟩
                | exact ⟨⟨0 + 1, by omega, by go_num, hnx.out hok.out, hb2⟩, by simp [intOf]⟩
                | exact ⟨⟨0 + 1, by omega, rfl, hnx.out hok.out, hb2⟩, by simp [intOf]⟩
                | exact ⟨⟨0 + 1, by omega, rfl, hnx.out hok.out, hb2⟩, by decide⟩
        · have hk0I : (0 : Int) < (k : Int) := by omega
          have hk0b : ((k : Int) == 0) = false := by simp; omega
          by_cases hN0 : N = 0
          · subst hN0
            go_wp2_with fail
            go_ret
            exact ⟨ret_bool (hfl.out (by rw [hokD.out, List.eq_nil_of_length_eq_zero hNH.out]; simp [hk0])).symm, hw2.out⟩
          · have hN0b : ((N : Int) == 0) = false := by simp; omega
            go_wp2_with fail
            go_loopw [7] (fun i wr2 => ∃ m : Nat, m ≤ N ∧ i = .int .i64 m ∧ Hid (∀ j, j < m → ∀ q, ps[j]? = some q → bad7 k N q = false) ∧ Hid (Below V.heap.size V wr2)) (fun i _ => N - (intOf i).toNat)
            case atStart => exact ⟨0, by omega, rfl, fun j hj => by omega, hz2.out⟩
            case round =>
              obtain ⟨m, hm, rfl, hno2, hb2⟩ := hrel
              have hl3 : wr.cell? ⟨w1.heap.size, k, none⟩ = some (.slice p N cap) := by
                have := (hb2.out.cell (p := ⟨w1.heap.size, k, none⟩) hlt).trans (lV.out k (by omega))
                rw [this, hvH.out, hNH.out]
              have hw3 := hidI2 (hBVH.out.trans (hb2.out.mono hBVH.out.size))
              by_cases hmN : m < N
              · obtain ⟨q, hq⟩ : ∃ q, ps[m]? = some q := ⟨_, List.getElem?_eq_getElem (by rw [hNH.out]; exact hmN)⟩
                have hpr := hpkH.out.below hw3.out
                obtain ⟨p', cap', hv', _, hcell'⟩ := hpr
                obtain ⟨b, o, rfl, _, c0, c1, c2, c3⟩ := hcell' m q hq
                rw [hvH.out] at hv'
                cases hv'
                have yes : Hid (bad7 k N q = true → isB c = false) := fun h => hfl.out (by
                  rw [hokD.out, hNH.out, List.any_eq_true.2 ⟨q, List.mem_of_getElem? hq, h⟩]; simp)
                have no : Hid (bad7 k N q = false → ∀ j, j < m + 1 → ∀ q', ps[j]? = some q' → bad7 k N q' = false) := fun h j hj q' hq' => by
                  by_cases hjk : j < m
                  · exact hno2.out j hjk q' hq'
                  · obtain rfl : j = m := by omega
                    rw [hq] at hq'; cases hq'; exact h
                have hbq := hbadD.out N q
                unfold badP wkP at hbq
                obtain ⟨a, f, t, s⟩ := q
                simp only at c0 c1 c2 c3 hbq
                have hF := hidI2 (rfits_any (a, f, t, s) lo hi (wr.alloc (.cells #[.bool a, .int .i64 f, .int .i64 t, .int .i64 s] 80)))
                have hbA : Hid (∀ w4, Below (wr.alloc (.cells #[.bool a, .int .i64 f, .int .i64 t, .int .i64 s] 80)).heap.size (wr.alloc (.cells #[.bool a, .int .i64 f, .int .i64 t, .int .i64 s] 80)) w4 → Below w.heap.size w w4 ∧ Below V.heap.size V w4 ∧ (w4.cell? ⟨wr.heap.size, 0, none⟩ = some (.bool a) ∧ w4.cell? ⟨wr.heap.size, 3, none⟩ = some (.int .i64 s)) ∧ w4.cell? ⟨w1.heap.size, k, none⟩ = some (.slice (some ⟨b, o, none⟩) N cap)) := fun w4 h4 => by
                  have hx := (Below.refl _ wr).alloc (Nat.le_refl _) (.cells #[.bool a, .int .i64 f, .int .i64 t, .int .i64 s] 80)
                  have hy := hx.trans (h4.mono hx.size)
                  exact ⟨hw3.out.trans (hy.mono hw3.out.size), hb2.out.trans (hy.mono hb2.out.size), ⟨(h4.cell (p := ⟨wr.heap.size, 0, none⟩) (by simp)).trans (cell_at rfl rfl), (h4.cell (p := ⟨wr.heap.size, 3, none⟩) (by simp)).trans (cell_at rfl rfl)⟩, (hy.cell (p := ⟨w1.heap.size, k, none⟩) (cell_lt hl3)).trans hl3⟩
                simp only [aggP] at hF
                have hmI : (m : Int) < (N : Int) := by omega
                cases hf : fitsB (a, f, t, s) lo hi
                all_goals
                  rw [hf] at hF hbq
                  have hbqH := hidI2 hbq
                  cases a
                all_goals
                  go_wp2_with fail
                  refine hF.out.mono ?_
                  rintro e w4 ⟨rfl, hb4⟩
                  obtain ⟨g1, g2, ⟨g3, g5⟩, g4⟩ := hbA.out w4 hb4
                  have g1H := hidI2 g1
                  have g2H := hidI2 g2
                  go_wp2_with fail
                all_goals first
                  | (go_ret; exact ⟨ret_bool (yes.out (by rw [hbqH.out]; clear hbqH yes no hbA hF g1H g2H hbq; simp_all <;> omega)).symm, g1H.out⟩)
                  | exact ⟨⟨m + 1, by omega, by go_num, no.out (by rw [hbqH.out]; clear hbqH yes no hbA hF g1H g2H hbq; simp_all <;> omega), g2H⟩, by simp [intOf]; omega⟩
                  | exact ⟨⟨m + 1, by omega, by go_num, no.out (by rw [hbqH.out]; clear hbqH yes no hbA hF g1H g2H hbq; simp; omega), g2H⟩, by simp [intOf]; omega⟩
              · obtain rfl : m = N := by omega
                have hmI : decide ((m : Int) < (m : Int)) = false := by simp
                have hok : Hid (ok7 c k = true) := by
                  show _ = _
                  rw [hokD.out, hNH.out, show ps.any (bad7 k m) = false from any_upto hno2.out (by rw [hNH.out]; exact Nat.le_refl _)]
                  cases ps with
              | nil => exact absurd hNH.out.symm hN0
              | cons _ _ => simp; omega
                go_wp2_with fail
                first
                  | exact ⟨⟨k + 1, by omega, by go_num, hnx.out hok.out, hb2⟩, by simp [intOf]; omega⟩
                  | exact ⟨⟨k + 1, by omega, by go_num, hnx.out hok.out, hb2⟩, by simp [intOf]⟩
                  | exact ⟨⟨k + 1, by omega, rfl, hnx.out hok.out, hb2⟩, by simp [intOf]⟩
                  | exact ⟨⟨k + 1, by omega, rfl, hnx.out hok.out, hb2⟩, by decide⟩
    · obtain rfl : k = 7 := by omega
      go_wp2_with fail
      go_ret
      exact ⟨ret_bool (isB_all hno.out).symm, hbw.out⟩
end Go.Proofs.YtehlnhljpdjppaaGreatDoor
