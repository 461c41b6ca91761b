/- LoopPlays. -/
import Derived.Test.YtdcidlgmnnaahaaGreatBbh
import Derived.Test.YtdcidlgmnnaahaaGreatBad
import Derived.Deep.LoopGhost
import Derived.Deep.RegionHeld3
import Derived.OpenShut
import Derived.Deep.DeepCutAuto
namespace Go.Proofs.YtdcidlgmnnaahaaGreat
open Go.RowKit Go.Shelf Go.Lib
attribute [local go_sem] Oper.semAt_some
theorem len_of_size {s : ByteArray} (h : s.size ≤ 300) : s.toList.length ≤ 300 := by
  have e : s.toList.length = s.size := by
    obtain ⟨d⟩ := s
    rw [toList_data]; simp [ByteArray.size]
  omega
set_option maxRecDepth 100000 in
set_option maxHeartbeats 8000000 in
theorem plays_walk (p0 : Option Addr) (n c0 : Nat) (ss : List Stp) (w : World) (hss : ss.length = n ∧ StepsAt w p0 ss ∧ n ≤ 140737488355328) :
    Calls Tryz.prog 3 #[.slice p0 n c0] w fun e V => e = .returned (.bool true) ∧ Below w.heap.size w V := by
  obtain ⟨hn, hs, hll⟩ := hss
  have hK := hidP (known_any w)
  have hnH := hidP hn
  have hsH := hidP hs
  clear hn hs
  by_cases h100 : n ≤ 100
  · have e1 : ¬ (100 : Int) < (n : Int) := by omega
    have hnI : (n : Int) ≤ 100 := by omega
    go_enter Tryz.func3, Tryz.ntmps3
    go_wp2_with fail
    refine hK.out.mono ?_
    rintro e w1 ⟨rfl, bw1⟩
    have bw1H := hidP bw1
    have hN := hidP (newl_any w1)
    unfold lp at hN
    clear bw1 hK
    go_wp2_with fail
    refine hN.out.mono ?_
    rintro e w2 ⟨rfl, lo2, b2⟩
    obtain ⟨lb, hlb⟩ : ∃ lb, w1.heap.size = lb := ⟨_, rfl⟩
    obtain ⟨rb, hrb⟩ : ∃ rb, w2.heap.size = rb := ⟨_, rfl⟩
    obtain ⟨w3, hw3⟩ : ∃ w3, w2.alloc (.cells #[.slice none 0 0, .slice none 0 0] 30) = w3 := ⟨_, rfl⟩
    rw [hlb] at lo2 ⊢
    have hP0 : Hid (Ph w1 lb rb 0 w3) := Ph.start b2 lo2 (by omega) hrb hw3
    clear hN lo2 b2
    go_wp2_with (rw [hw3])
    clear hlb hrb hw3
    go_loopw [5] (fun i wr => ∃ (j : Nat), j ≤ n ∧ i = .int .i64 j ∧ Hid (Ph w1 lb rb j wr)) (fun i _ => n - (intOf i).toNat)
    case atStart => exact ⟨0, by omega, rfl, hP0⟩
    case round =>
      obtain ⟨j, hj, rfl, hst⟩ := hrel
      clear hP0
      have bw : Below w.heap.size w wr := bw1H.out.trans (hst.out.w.mono bw1H.out.size)
      by_cases hlt : j < n
      · have hjI : (j : Int) < (n : Int) := by omega
        obtain ⟨x, hx⟩ : ∃ x, ss[j]? = some x := ⟨_, List.getElem?_eq_getElem (by rw [hnH.out]; exact hlt)⟩
        obtain ⟨xok, b, o, rfl, k0, k1, k2, k3, k4, k5, k6, k7, k8⟩ := hsH.out j x hx
        obtain ⟨wh, k, p, s, eu, ex, u, uw, a⟩ := x
        obtain ⟨_, _, ok3, ok4, ok5, ok6, ok7⟩ := xok
        dsimp only at ok3 ok4 ok5 ok6 ok7 k0 k1 k2 k3 k4 k5 k6 k7 k8
        have hab : a ≤ 9223372036854775807 := (bounds_i64 ok3).2
        have k0 := bcell bw (cell_lt k0) k0
        have k1 := bcell bw (cell_lt k1) k1
        have k2 := bcell bw (cell_lt k2) k2
        have k3 := bcell bw (cell_lt k3) k3
        have k4 := bcell bw (cell_lt k4) k4
        have k5 := bcell bw (cell_lt k5) k5
        have k6 := bcell bw (cell_lt k6) k6
        have k7 := bcell bw (cell_lt k7) k7
        have k8 := bcell bw (cell_lt k8) k8
        obtain ⟨A, hA⟩ : ∃ A, wr.alloc (.cells #[.int .i64 wh, .int .i64 k, .int .i64 p, .int .i64 s, .string eu, .string ex, .string u, .string uw, .int .i64 a] 34) = A := ⟨_, rfl⟩
        obtain ⟨D, hD⟩ : ∃ D, wr.heap.size = D := ⟨_, rfl⟩
        have bA : Below wr.heap.size wr A := by rw [← hA]; exact (Below.refl _ _).alloc (Nat.le_refl _) _
        have hqH : Hid (∃ L n T, Pq w1 lb rb D j L n T ⟨wh, k, p, s, eu, ex, u, uw, a⟩ A) := Ph.take hst.out hD hA
        have finA : Hid (Below w.heap.size w A) := bw.trans (bA.mono bw.size)
        have hdx : Dx D ⟨wh, k, p, s, eu, ex, u, uw, a⟩ A := by
          obtain ⟨_, _, _, q⟩ := hqH.out
          exact q.d
        obtain ⟨d0, d1, d2, d3, d4, d5, d6, d7, d8⟩ := hdx
        dsimp only at d0 d1 d2 d3 d4 d5 d6 d7 d8
        have g1 : (eu.size : Int) ≤ 140737488355328 := by omega
        have g2 : (ex.size : Int) ≤ 140737488355328 := by omega
        have g3 : (u.size : Int) ≤ 140737488355328 := by omega
        have g4 : (uw.size : Int) ≤ 140737488355328 := by omega
        have g5 : (0 : Int) ≤ (eu.size : Int) := by omega
        have g6 : (0 : Int) ≤ (ex.size : Int) := by omega
        have g7 : (0 : Int) ≤ (u.size : Int) := by omega
        have g8 : (0 : Int) ≤ (uw.size : Int) := by omega
        clear hst bw hx bA ok3 ok4 ok5 ok6 ok7
        by_cases hle : (300 : Int) < (u.size : Int) + (uw.size : Int) + (eu.size : Int) + (ex.size : Int)
        · clear hqH
          go_wp2_with (rw [hA])
          go_ret
          exact ⟨rfl, finA.out⟩
        · have hleD : decide ((300 : Int) < (u.size : Int) + (uw.size : Int) + (eu.size : Int) + (ex.size : Int)) = false := decide_eq_false hle
          have hbH : Hid (u.toList.length ≤ 300 ∧ uw.toList.length ≤ 300) := ⟨len_of_size (by omega), len_of_size (by omega)⟩
          have hj9H : Hid (j ≤ 99) := (by omega : j ≤ 99)
          have habH := hidP hab
          clear hab
          go_upto_region 12 with (rw [hA])
          go_cut [7] (fun a wx => a = .bool true ∧ wx = A)
          case first =>
            go_wp2_with fail
            go_meet
            exact ⟨rfl, rfl⟩
          case rest =>
            obtain ⟨rfl, rfl⟩ := hcut
            clear hA hle hleD g1 g2 g3 g4 g5 g6 g7 g8 k0 k1 k2 k3 k4 k5 k6 k7 k8
            rename_i K1 aK1
            refine aK1 _ _ ?_
            clear aK1 K1
            go_step
            go_cut [7, 8, 9, 10, 11] (fun a7 a8 a9 a10 a11 wx => a7 = .bool true ∧ Hid (Nx w1 lb rb D j ⟨wh, k, p, s, eu, ex, u, uw, a⟩ wx))
            case first =>
              by_cases h0 : wh = 0
              · subst h0
                as_aux_lemma =>
                  obtain ⟨_, _, _, hq⟩ := hqH.out
                  obtain ⟨ev, hE'⟩ := push_two hq (by have := hj9H.out; omega)
                  have hE := hidP hE'
                  clear hE'
                  dsimp only [evS] at hE
                  have hS1 := And.intro d1 (And.intro d2 (And.intro d3 (And.intro d4 d5)))
                  clear hqH hq
                  go_upto_region 18 with fail
                  refine Zs.region (S := fun W' => W'.cell? ⟨D, 1, none⟩ = some (.int .i64 k) ∧ W'.cell? ⟨D, 2, none⟩ = some (.int .i64 p) ∧ W'.cell? ⟨D, 3, none⟩ = some (.int .i64 s) ∧ W'.cell? ⟨D, 4, none⟩ = some (.string eu) ∧ W'.cell? ⟨D, 5, none⟩ = some (.string ex)) 9 (by kernel_rfl) ?_
                  refine Zs.pure (i := 0) (oi := ⟨some 63, _, _, _, _, _⟩) (v := .pointer (some ⟨lb, 0, none⟩)) rfl (by kernel_rfl) (by kernel_rfl) (by kernel_rfl) (by decide) (fun _ _ _ h => h) (Or.inl ⟨by rfl, ?hy0⟩) hS1 ?_
                  case hy0 => (intro w hSw; (try dsimp only at hSw); go_simp; try with_reducible rfl)
                  simp only [Act.put, List.setIfInBounds_toArray, List.set_cons_zero, List.set_cons_succ]
                  refine Zs.pure (i := 1) (oi := ⟨some 64, _, _, _, _, _⟩) (v := .pointer (some ⟨D, 1, none⟩)) rfl (by kernel_rfl) (by kernel_rfl) (by kernel_rfl) (by decide) (fun _ _ _ h => h) (Or.inl ⟨by rfl, ?hy1⟩) hS1 ?_
                  case hy1 => (intro w hSw; (try dsimp only at hSw); go_simp; try with_reducible rfl)
                  simp only [Act.put, List.setIfInBounds_toArray, List.set_cons_zero, List.set_cons_succ]
                  refine Zs.takeC (i := 2) (oi := ⟨some 65, _, _, _, _, _⟩) (v := .agg #[.int .i64 k, .int .i64 p, .int .i64 s, .string eu, .string ex]) 8 rfl (by kernel_rfl) (by kernel_rfl) (by kernel_rfl) (by decide) (by kernel_rfl) (by kernel_rfl) (by kernel_rfl) (fun _ _ _ h => h) (Or.inl ⟨by rfl, ?hy2⟩) hS1 ?_
                  case hy2 => (intro w hSw; (try dsimp only at hSw); go_simp; try with_reducible rfl)
                  simp only [Act.put, List.setIfInBounds_toArray, List.set_cons_zero, List.set_cons_succ]
                  refine Zs.pure (i := 4) (oi := ⟨some 67, _, _, _, _, _⟩) (v := .pointer (some ⟨rb, 0, none⟩)) rfl (by kernel_rfl) (by kernel_rfl) (by kernel_rfl) (by decide) (fun _ _ _ h => h) (Or.inl ⟨by rfl, ?hy4⟩) hS1 ?_
                  case hy4 => (intro w hSw; (try dsimp only at hSw); go_simp; try with_reducible rfl)
                  simp only [Act.put, List.setIfInBounds_toArray, List.set_cons_zero, List.set_cons_succ]
                  refine Zs.pure (i := 5) (oi := ⟨some 68, _, _, _, _, _⟩) (v := .pointer (some ⟨D, 1, none⟩)) rfl (by kernel_rfl) (by kernel_rfl) (by kernel_rfl) (by decide) (fun _ _ _ h => h) (Or.inl ⟨by rfl, ?hy5⟩) hS1 ?_
                  case hy5 => (intro w hSw; (try dsimp only at hSw); go_simp; try with_reducible rfl)
                  simp only [Act.put, List.setIfInBounds_toArray, List.set_cons_zero, List.set_cons_succ]
                  refine Zs.takeC (i := 6) (oi := ⟨some 69, _, _, _, _, _⟩) (v := .agg #[.int .i64 k, .int .i64 p, .int .i64 s, .string eu, .string ex]) 8 rfl (by kernel_rfl) (by kernel_rfl) (by kernel_rfl) (by decide) (by kernel_rfl) (by kernel_rfl) (by kernel_rfl) (fun _ _ _ h => h) (Or.inl ⟨by rfl, ?hy6⟩) hS1 ?_
                  case hy6 => (intro w hSw; (try dsimp only at hSw); go_simp; try with_reducible rfl)
                  simp only [Act.put, List.setIfInBounds_toArray, List.set_cons_zero, List.set_cons_succ]
                  refine Zs.one (i := 3) (oi := ⟨some 66, _, _, _, _, _⟩) (by kernel_rfl) rfl (fun K hK => ?_)
                  go_simp
                  refine (hE.out _ ((Below.refl _ _).drew)).mono ?_
                  rintro e V1 ⟨rfl, dx1, h2⟩
                  have h2H := hidP h2
                  have hS2 := (⟨dx1.2.1, dx1.2.2.1, dx1.2.2.2.1, dx1.2.2.2.2.1, dx1.2.2.2.2.2.1⟩ : _ ∧ _ ∧ _ ∧ _ ∧ _)
                  clear h2 dx1
                  go_wp2_with fail
                  refine hK.out _ _ (fun _ => hS2) ?_
                  clear hK K
                  try simp only [Act.put, List.setIfInBounds_toArray, List.set_cons_zero, List.set_cons_succ]
                  refine Zs.one (i := 7) (oi := ⟨some 70, _, _, _, _, _⟩) (by kernel_rfl) rfl (fun K hK => ?_)
                  go_simp
                  refine h2H.out.mono ?_
                  rintro e V2 ⟨rfl, dx2, hN⟩
                  have hfin := hidP hN
                  have hS3 := (⟨dx2.2.1, dx2.2.2.1, dx2.2.2.2.1, dx2.2.2.2.2.1, dx2.2.2.2.2.2.1⟩ : _ ∧ _ ∧ _ ∧ _ ∧ _)
                  clear hN dx2
                  go_wp2_with fail
                  refine hK.out _ _ (fun _ => hS3) ?_
                  clear hK K
                  try simp only [Act.put, List.setIfInBounds_toArray, List.set_cons_zero, List.set_cons_succ]
                  refine Zs.pure (i := 8) (oi := ⟨some 71, _, _, _, _, _⟩) (v := .bool true) rfl (by kernel_rfl) (by kernel_rfl) (by kernel_rfl) (by decide) (fun _ _ _ h => h) (Or.inl ⟨by rfl, ?hy8⟩) hS3 ?_
                  case hy8 => (intro w hSw; (try dsimp only at hSw); go_simp; try with_reducible rfl)
                  simp only [Act.put, List.setIfInBounds_toArray, List.set_cons_zero, List.set_cons_succ]
                  refine Zs.one (i := 9) (oi := ⟨some 7, _, _, _, _, _⟩) (by kernel_rfl) rfl (fun K hK => ?_)
                  go_simp
                  refine hK.out _ _ (fun q => absurd q (by decide)) ?_
                  clear hK K
                  try simp only [Act.put, List.setIfInBounds_toArray, List.set_cons_zero, List.set_cons_succ]
                  refine Zs.done (by kernel_rfl) ?_ _
                  clear hE h2H hS1 hS2 hS3
                  go_wp2_with fail
                  go_meet
                  exact ⟨rfl, hfin⟩
              · have h0' : (wh == 0) = false := by simp [h0]
                by_cases h1 : wh = 1
                · subst h1
                  as_aux_lemma =>
                    obtain ⟨_, _, _, hq⟩ := hqH.out
                    obtain ⟨ev, hE'⟩ := push_two hq (by have := hj9H.out; omega)
                    have hE := hidP hE'
                    clear hE'
                    dsimp only [evS] at hE
                    have hS1 := And.intro d1 (And.intro d2 (And.intro d3 (And.intro d4 d5)))
                    clear hqH hq
                    go_upto_region 18 with fail
                    refine Zs.region (S := fun W' => W'.cell? ⟨D, 1, none⟩ = some (.int .i64 k) ∧ W'.cell? ⟨D, 2, none⟩ = some (.int .i64 p) ∧ W'.cell? ⟨D, 3, none⟩ = some (.int .i64 s) ∧ W'.cell? ⟨D, 4, none⟩ = some (.string eu) ∧ W'.cell? ⟨D, 5, none⟩ = some (.string ex)) 9 (by kernel_rfl) ?_
                    refine Zs.pure (i := 0) (oi := ⟨some 63, _, _, _, _, _⟩) (v := .pointer (some ⟨lb, 0, none⟩)) rfl (by kernel_rfl) (by kernel_rfl) (by kernel_rfl) (by decide) (fun _ _ _ h => h) (Or.inl ⟨by rfl, ?hy0⟩) hS1 ?_
                    case hy0 => (intro w hSw; (try dsimp only at hSw); go_simp; try with_reducible rfl)
                    simp only [Act.put, List.setIfInBounds_toArray, List.set_cons_zero, List.set_cons_succ]
                    refine Zs.pure (i := 1) (oi := ⟨some 64, _, _, _, _, _⟩) (v := .pointer (some ⟨D, 1, none⟩)) rfl (by kernel_rfl) (by kernel_rfl) (by kernel_rfl) (by decide) (fun _ _ _ h => h) (Or.inl ⟨by rfl, ?hy1⟩) hS1 ?_
                    case hy1 => (intro w hSw; (try dsimp only at hSw); go_simp; try with_reducible rfl)
                    simp only [Act.put, List.setIfInBounds_toArray, List.set_cons_zero, List.set_cons_succ]
                    refine Zs.takeC (i := 2) (oi := ⟨some 65, _, _, _, _, _⟩) (v := .agg #[.int .i64 k, .int .i64 p, .int .i64 s, .string eu, .string ex]) 8 rfl (by kernel_rfl) (by kernel_rfl) (by kernel_rfl) (by decide) (by kernel_rfl) (by kernel_rfl) (by kernel_rfl) (fun _ _ _ h => h) (Or.inl ⟨by rfl, ?hy2⟩) hS1 ?_
                    case hy2 => (intro w hSw; (try dsimp only at hSw); go_simp; try with_reducible rfl)
                    simp only [Act.put, List.setIfInBounds_toArray, List.set_cons_zero, List.set_cons_succ]
                    refine Zs.pure (i := 4) (oi := ⟨some 67, _, _, _, _, _⟩) (v := .pointer (some ⟨rb, 0, none⟩)) rfl (by kernel_rfl) (by kernel_rfl) (by kernel_rfl) (by decide) (fun _ _ _ h => h) (Or.inl ⟨by rfl, ?hy4⟩) hS1 ?_
                    case hy4 => (intro w hSw; (try dsimp only at hSw); go_simp; try with_reducible rfl)
                    simp only [Act.put, List.setIfInBounds_toArray, List.set_cons_zero, List.set_cons_succ]
                    refine Zs.pure (i := 5) (oi := ⟨some 68, _, _, _, _, _⟩) (v := .pointer (some ⟨D, 1, none⟩)) rfl (by kernel_rfl) (by kernel_rfl) (by kernel_rfl) (by decide) (fun _ _ _ h => h) (Or.inl ⟨by rfl, ?hy5⟩) hS1 ?_
                    case hy5 => (intro w hSw; (try dsimp only at hSw); go_simp; try with_reducible rfl)
                    simp only [Act.put, List.setIfInBounds_toArray, List.set_cons_zero, List.set_cons_succ]
                    refine Zs.takeC (i := 6) (oi := ⟨some 69, _, _, _, _, _⟩) (v := .agg #[.int .i64 k, .int .i64 p, .int .i64 s, .string eu, .string ex]) 8 rfl (by kernel_rfl) (by kernel_rfl) (by kernel_rfl) (by decide) (by kernel_rfl) (by kernel_rfl) (by kernel_rfl) (fun _ _ _ h => h) (Or.inl ⟨by rfl, ?hy6⟩) hS1 ?_
                    case hy6 => (intro w hSw; (try dsimp only at hSw); go_simp; try with_reducible rfl)
                    simp only [Act.put, List.setIfInBounds_toArray, List.set_cons_zero, List.set_cons_succ]
                    refine Zs.one (i := 3) (oi := ⟨some 66, _, _, _, _, _⟩) (by kernel_rfl) rfl (fun K hK => ?_)
                    go_simp
                    refine (hE.out _ ((Below.refl _ _).drew)).mono ?_
                    rintro e V1 ⟨rfl, dx1, h2⟩
                    have h2H := hidP h2
                    have hS2 := (⟨dx1.2.1, dx1.2.2.1, dx1.2.2.2.1, dx1.2.2.2.2.1, dx1.2.2.2.2.2.1⟩ : _ ∧ _ ∧ _ ∧ _ ∧ _)
                    clear h2 dx1
                    go_wp2_with fail
                    refine hK.out _ _ (fun _ => hS2) ?_
                    clear hK K
                    try simp only [Act.put, List.setIfInBounds_toArray, List.set_cons_zero, List.set_cons_succ]
                    refine Zs.one (i := 7) (oi := ⟨some 70, _, _, _, _, _⟩) (by kernel_rfl) rfl (fun K hK => ?_)
                    go_simp
                    refine h2H.out.mono ?_
                    rintro e V2 ⟨rfl, dx2, hN⟩
                    have hfin := hidP hN
                    have hS3 := (⟨dx2.2.1, dx2.2.2.1, dx2.2.2.2.1, dx2.2.2.2.2.1, dx2.2.2.2.2.2.1⟩ : _ ∧ _ ∧ _ ∧ _ ∧ _)
                    clear hN dx2
                    go_wp2_with fail
                    refine hK.out _ _ (fun _ => hS3) ?_
                    clear hK K
                    try simp only [Act.put, List.setIfInBounds_toArray, List.set_cons_zero, List.set_cons_succ]
                    refine Zs.pure (i := 8) (oi := ⟨some 71, _, _, _, _, _⟩) (v := .bool true) rfl (by kernel_rfl) (by kernel_rfl) (by kernel_rfl) (by decide) (fun _ _ _ h => h) (Or.inl ⟨by rfl, ?hy8⟩) hS3 ?_
                    case hy8 => (intro w hSw; (try dsimp only at hSw); go_simp; try with_reducible rfl)
                    simp only [Act.put, List.setIfInBounds_toArray, List.set_cons_zero, List.set_cons_succ]
                    refine Zs.one (i := 9) (oi := ⟨some 7, _, _, _, _, _⟩) (by kernel_rfl) rfl (fun K hK => ?_)
                    go_simp
                    refine hK.out _ _ (fun q => absurd q (by decide)) ?_
                    clear hK K
                    try simp only [Act.put, List.setIfInBounds_toArray, List.set_cons_zero, List.set_cons_succ]
                    refine Zs.done (by kernel_rfl) ?_ _
                    clear hE h2H hS1 hS2 hS3
                    go_wp2_with fail
                    go_meet
                    exact ⟨rfl, hfin⟩
                · have h1' : (wh == 1) = false := by simp [h1]
                  by_cases h2 : wh = 2
                  · subst h2
                    as_aux_lemma =>
                      obtain ⟨_, _, _, hq⟩ := hqH.out
                      obtain ⟨ev, hE'⟩ := push_two hq (by have := hj9H.out; omega)
                      have hE := hidP hE'
                      clear hE'
                      dsimp only [evS] at hE
                      have hS1 := And.intro d1 (And.intro d2 (And.intro d3 (And.intro d4 d5)))
                      clear hqH hq
                      go_upto_region 18 with fail
                      refine Zs.region (S := fun W' => W'.cell? ⟨D, 1, none⟩ = some (.int .i64 k) ∧ W'.cell? ⟨D, 2, none⟩ = some (.int .i64 p) ∧ W'.cell? ⟨D, 3, none⟩ = some (.int .i64 s) ∧ W'.cell? ⟨D, 4, none⟩ = some (.string eu) ∧ W'.cell? ⟨D, 5, none⟩ = some (.string ex)) 9 (by kernel_rfl) ?_
                      refine Zs.pure (i := 0) (oi := ⟨some 63, _, _, _, _, _⟩) (v := .pointer (some ⟨lb, 0, none⟩)) rfl (by kernel_rfl) (by kernel_rfl) (by kernel_rfl) (by decide) (fun _ _ _ h => h) (Or.inl ⟨by rfl, ?hy0⟩) hS1 ?_
                      case hy0 => (intro w hSw; (try dsimp only at hSw); go_simp; try with_reducible rfl)
                      simp only [Act.put, List.setIfInBounds_toArray, List.set_cons_zero, List.set_cons_succ]
                      refine Zs.pure (i := 1) (oi := ⟨some 64, _, _, _, _, _⟩) (v := .pointer (some ⟨D, 1, none⟩)) rfl (by kernel_rfl) (by kernel_rfl) (by kernel_rfl) (by decide) (fun _ _ _ h => h) (Or.inl ⟨by rfl, ?hy1⟩) hS1 ?_
                      case hy1 => (intro w hSw; (try dsimp only at hSw); go_simp; try with_reducible rfl)
                      simp only [Act.put, List.setIfInBounds_toArray, List.set_cons_zero, List.set_cons_succ]
                      refine Zs.takeC (i := 2) (oi := ⟨some 65, _, _, _, _, _⟩) (v := .agg #[.int .i64 k, .int .i64 p, .int .i64 s, .string eu, .string ex]) 8 rfl (by kernel_rfl) (by kernel_rfl) (by kernel_rfl) (by decide) (by kernel_rfl) (by kernel_rfl) (by kernel_rfl) (fun _ _ _ h => h) (Or.inl ⟨by rfl, ?hy2⟩) hS1 ?_
                      case hy2 => (intro w hSw; (try dsimp only at hSw); go_simp; try with_reducible rfl)
                      simp only [Act.put, List.setIfInBounds_toArray, List.set_cons_zero, List.set_cons_succ]
                      refine Zs.pure (i := 4) (oi := ⟨some 67, _, _, _, _, _⟩) (v := .pointer (some ⟨rb, 0, none⟩)) rfl (by kernel_rfl) (by kernel_rfl) (by kernel_rfl) (by decide) (fun _ _ _ h => h) (Or.inl ⟨by rfl, ?hy4⟩) hS1 ?_
                      case hy4 => (intro w hSw; (try dsimp only at hSw); go_simp; try with_reducible rfl)
                      simp only [Act.put, List.setIfInBounds_toArray, List.set_cons_zero, List.set_cons_succ]
                      refine Zs.pure (i := 5) (oi := ⟨some 68, _, _, _, _, _⟩) (v := .pointer (some ⟨D, 1, none⟩)) rfl (by kernel_rfl) (by kernel_rfl) (by kernel_rfl) (by decide) (fun _ _ _ h => h) (Or.inl ⟨by rfl, ?hy5⟩) hS1 ?_
                      case hy5 => (intro w hSw; (try dsimp only at hSw); go_simp; try with_reducible rfl)
                      simp only [Act.put, List.setIfInBounds_toArray, List.set_cons_zero, List.set_cons_succ]
                      refine Zs.takeC (i := 6) (oi := ⟨some 69, _, _, _, _, _⟩) (v := .agg #[.int .i64 k, .int .i64 p, .int .i64 s, .string eu, .string ex]) 8 rfl (by kernel_rfl) (by kernel_rfl) (by kernel_rfl) (by decide) (by kernel_rfl) (by kernel_rfl) (by kernel_rfl) (fun _ _ _ h => h) (Or.inl ⟨by rfl, ?hy6⟩) hS1 ?_
                      case hy6 => (intro w hSw; (try dsimp only at hSw); go_simp; try with_reducible rfl)
                      simp only [Act.put, List.setIfInBounds_toArray, List.set_cons_zero, List.set_cons_succ]
                      refine Zs.one (i := 3) (oi := ⟨some 66, _, _, _, _, _⟩) (by kernel_rfl) rfl (fun K hK => ?_)
                      go_simp
                      refine (hE.out _ ((Below.refl _ _).drew)).mono ?_
                      rintro e V1 ⟨rfl, dx1, h2⟩
                      have h2H := hidP h2
                      have hS2 := (⟨dx1.2.1, dx1.2.2.1, dx1.2.2.2.1, dx1.2.2.2.2.1, dx1.2.2.2.2.2.1⟩ : _ ∧ _ ∧ _ ∧ _ ∧ _)
                      clear h2 dx1
                      go_wp2_with fail
                      refine hK.out _ _ (fun _ => hS2) ?_
                      clear hK K
                      try simp only [Act.put, List.setIfInBounds_toArray, List.set_cons_zero, List.set_cons_succ]
                      refine Zs.one (i := 7) (oi := ⟨some 70, _, _, _, _, _⟩) (by kernel_rfl) rfl (fun K hK => ?_)
                      go_simp
                      refine h2H.out.mono ?_
                      rintro e V2 ⟨rfl, dx2, hN⟩
                      have hfin := hidP hN
                      have hS3 := (⟨dx2.2.1, dx2.2.2.1, dx2.2.2.2.1, dx2.2.2.2.2.1, dx2.2.2.2.2.2.1⟩ : _ ∧ _ ∧ _ ∧ _ ∧ _)
                      clear hN dx2
                      go_wp2_with fail
                      refine hK.out _ _ (fun _ => hS3) ?_
                      clear hK K
                      try simp only [Act.put, List.setIfInBounds_toArray, List.set_cons_zero, List.set_cons_succ]
                      refine Zs.pure (i := 8) (oi := ⟨some 71, _, _, _, _, _⟩) (v := .bool true) rfl (by kernel_rfl) (by kernel_rfl) (by kernel_rfl) (by decide) (fun _ _ _ h => h) (Or.inl ⟨by rfl, ?hy8⟩) hS3 ?_
                      case hy8 => (intro w hSw; (try dsimp only at hSw); go_simp; try with_reducible rfl)
                      simp only [Act.put, List.setIfInBounds_toArray, List.set_cons_zero, List.set_cons_succ]
                      refine Zs.one (i := 9) (oi := ⟨some 7, _, _, _, _, _⟩) (by kernel_rfl) rfl (fun K hK => ?_)
                      go_simp
                      refine hK.out _ _ (fun q => absurd q (by decide)) ?_
                      clear hK K
                      try simp only [Act.put, List.setIfInBounds_toArray, List.set_cons_zero, List.set_cons_succ]
                      refine Zs.done (by kernel_rfl) ?_ _
                      clear hE h2H hS1 hS2 hS3
                      go_wp2_with fail
                      go_meet
                      exact ⟨rfl, hfin⟩
                  · have h2' : (wh == 2) = false := by simp [h2]
                    by_cases h3 : wh = 3
                    · subst h3
                      as_aux_lemma =>
                        obtain ⟨_, _, _, hq⟩ := hqH.out
                        obtain ⟨ka, pa, sa, ua, ta, ba, hcall⟩ := next_two hq
                        have hS := hidP hcall
                        clear hcall hqH hq
                        go_wp2_with fail
                        refine hS.out.mono ?_
                        rintro e V ⟨rfl, h2⟩
                        obtain ⟨V1, hV1⟩ : ∃ V1, V.alloc (.cells #[Value.int .i64 ka, .int .i64 pa, .int .i64 sa, .string ua, .string ta] 32) = V1 := ⟨_, rfl⟩
                        obtain ⟨bp, hbp⟩ : ∃ bp, V.heap.size = bp := ⟨_, rfl⟩
                        have bV : Below V.heap.size V V1 := by rw [← hV1]; exact (Below.refl _ _).alloc (Nat.le_refl _) _
                        have sV : V1.heap.size = bp + 1 := by rw [← hV1]; simp [hbp]
                        have cp : ∀ t u, #[Value.int .i64 ka, .int .i64 pa, .int .i64 sa, .string ua, .string ta][t]? = some u → V1.cell? ⟨bp, t, none⟩ = some u := fun t u ht => by rw [← hV1]; exact cell_at hbp ht
                        obtain ⟨_, h3⟩ := h2 V1 bp bV (by omega) (by omega)
                        have h3H := hidP h3
                        have cpH := hidP cp
                        clear h2 h3 bV sV cp hS
                        go_wp2_with (rw [hV1])
                        refine h3H.out.mono ?_
                        rintro e V2 ⟨rfl, mv, hN⟩
                        obtain ⟨V3, hV3⟩ : ∃ V3, V2.alloc (.cells #[Value.int .i64 ka, .int .i64 pa, .int .i64 sa, .string ua, .string ta] 32) = V3 := ⟨_, rfl⟩
                        obtain ⟨bq, hbq⟩ : ∃ bq, V2.heap.size = bq := ⟨_, rfl⟩
                        have bV3 : Below V2.heap.size V2 V3 := by rw [← hV3]; exact (Below.refl _ _).alloc (Nat.le_refl _) _
                        have cq : ∀ t u, #[Value.int .i64 ka, .int .i64 pa, .int .i64 sa, .string ua, .string ta][t]? = some u → V3.cell? ⟨bq, t, none⟩ = some u := fun t u ht => by rw [← hV3]; exact cell_at hbq ht
                        have cp3 : ∀ t u, #[Value.int .i64 ka, .int .i64 pa, .int .i64 sa, .string ua, .string ta][t]? = some u → V3.cell? ⟨bp, t, none⟩ = some u := fun t u ht => by
                          have z := mv.cell (a := ⟨bp, t, none⟩) (fun f => f (.inr rfl)) (cpH.out t u ht)
                          exact bcell bV3 (cell_lt z) z
                        have a0 := cp3 0 _ rfl
                        have a1 := cp3 1 _ rfl
                        have a2 := cp3 2 _ rfl
                        have a3 := cp3 3 _ rfl
                        have a4 := cp3 4 _ rfl
                        have b0 := cq 0 _ rfl
                        have b1 := cq 1 _ rfl
                        have b2 := cq 2 _ rfl
                        have b3 := cq 3 _ rfl
                        have b4 := cq 4 _ rfl
                        have hfin := hidP (hN.below bV3)
                        clear h3H hN cq cp3 cpH mv bV3
                        go_wp2_with (rw [hV3])
                        go_meet
                        exact ⟨rfl, hfin⟩
                    · have h3' : (wh == 3) = false := by simp [h3]
                      by_cases h4 : wh = 4
                      · subst h4
                        as_aux_lemma =>
                          obtain ⟨_, _, _, hq⟩ := hqH.out
                          have hcall := set_two hq (by have := hj9H.out; omega) hbH.out.1 hbH.out.2 habH.out
                          have hS := hidP hcall
                          clear hcall hqH hq
                          dsimp only at hS
                          go_wp2_with fail
                          refine hS.out.mono ?_
                          rintro e V ⟨rfl, dx, h2⟩
                          obtain ⟨q0, q1, q2, q3, q4, q5, q6, q7, q8⟩ := dx
                          dsimp only at q6 q7 q8
                          have h2H := hidP h2
                          clear h2 hS q0 q1 q2 q3 q4 q5
                          go_wp2_with fail
                          refine h2H.out.mono ?_
                          rintro e V2 ⟨rfl, _, hN⟩
                          have hfin := hidP hN
                          clear h2H hN
                          go_wp2_with fail
                          go_meet
                          exact ⟨rfl, hfin⟩
                      · have h4' : (wh == 4) = false := by simp [h4]
                        by_cases h5 : wh = 5
                        · subst h5
                          as_aux_lemma =>
                            obtain ⟨_, _, _, hq⟩ := hqH.out
                            have hcall := set_two hq (by have := hj9H.out; omega) hbH.out.1 hbH.out.2 habH.out
                            have hS := hidP hcall
                            clear hcall hqH hq
                            dsimp only at hS
                            go_wp2_with fail
                            refine hS.out.mono ?_
                            rintro e V ⟨rfl, dx, h2⟩
                            obtain ⟨q0, q1, q2, q3, q4, q5, q6, q7, q8⟩ := dx
                            dsimp only at q6 q7 q8
                            have h2H := hidP h2
                            clear h2 hS q0 q1 q2 q3 q4 q5
                            go_wp2_with fail
                            refine h2H.out.mono ?_
                            rintro e V2 ⟨rfl, _, hN⟩
                            have hfin := hidP hN
                            clear h2H hN
                            go_wp2_with fail
                            go_meet
                            exact ⟨rfl, hfin⟩
                        · have h5' : (wh == 5) = false := by simp [h5]
                          by_cases h6 : wh = 6
                          · subst h6
                            as_aux_lemma =>
                              obtain ⟨_, _, _, hq⟩ := hqH.out
                              have hcall := set_two hq (by have := hj9H.out; omega) hbH.out.1 hbH.out.2 habH.out
                              have hS := hidP hcall
                              clear hcall hqH hq
                              dsimp only at hS
                              go_wp2_with fail
                              refine hS.out.mono ?_
                              rintro e V ⟨rfl, dx, h2⟩
                              obtain ⟨q0, q1, q2, q3, q4, q5, q6, q7, q8⟩ := dx
                              dsimp only at q6 q7 q8
                              have h2H := hidP h2
                              clear h2 hS q0 q1 q2 q3 q4 q5
                              go_wp2_with fail
                              refine h2H.out.mono ?_
                              rintro e V2 ⟨rfl, _, hN⟩
                              have hfin := hidP hN
                              clear h2H hN
                              go_wp2_with fail
                              go_meet
                              exact ⟨rfl, hfin⟩
                          · have h6' : (wh == 6) = false := by simp [h6]
                            by_cases h7 : wh = 7
                            · subst h7
                              as_aux_lemma =>
                                obtain ⟨_, _, _, hq⟩ := hqH.out
                                have hE := hidP (elapse_two hq (by have := hj9H.out; omega))
                                dsimp only [evS] at hE
                                have hS1 := d8
                                clear hqH hq
                                go_upto_region 29 with fail
                                refine Zs.region (S := fun W' => W'.cell? ⟨D, 8, none⟩ = some (.int .i64 a)) 9 (by kernel_rfl) ?_
                                refine Zs.pure (i := 0) (oi := ⟨some 114, _, _, _, _, _⟩) (v := .pointer (some ⟨lb, 0, none⟩)) rfl (by kernel_rfl) (by kernel_rfl) (by kernel_rfl) (by decide) (fun _ _ _ h => h) (Or.inl ⟨by rfl, ?hy0⟩) hS1 ?_
                                case hy0 => (intro w hSw; (try dsimp only at hSw); go_simp; try with_reducible rfl)
                                simp only [Act.put, List.setIfInBounds_toArray, List.set_cons_zero, List.set_cons_succ]
                                refine Zs.pure (i := 1) (oi := ⟨some 115, _, _, _, _, _⟩) (v := .pointer (some ⟨D, 8, none⟩)) rfl (by kernel_rfl) (by kernel_rfl) (by kernel_rfl) (by decide) (fun _ _ _ h => h) (Or.inl ⟨by rfl, ?hy1⟩) hS1 ?_
                                case hy1 => (intro w hSw; (try dsimp only at hSw); go_simp; try with_reducible rfl)
                                simp only [Act.put, List.setIfInBounds_toArray, List.set_cons_zero, List.set_cons_succ]
                                refine Zs.takeC (i := 2) (oi := ⟨some 116, _, _, _, _, _⟩) (v := .int .i64 a) 8 rfl (by kernel_rfl) (by kernel_rfl) (by kernel_rfl) (by decide) (by kernel_rfl) (by kernel_rfl) (by kernel_rfl) (fun _ _ _ h => h) (Or.inl ⟨by rfl, ?hy2⟩) hS1 ?_
                                case hy2 => (intro w hSw; (try dsimp only at hSw); go_simp; try with_reducible rfl)
                                simp only [Act.put, List.setIfInBounds_toArray, List.set_cons_zero, List.set_cons_succ]
                                refine Zs.pure (i := 4) (oi := ⟨some 118, _, _, _, _, _⟩) (v := .pointer (some ⟨rb, 0, none⟩)) rfl (by kernel_rfl) (by kernel_rfl) (by kernel_rfl) (by decide) (fun _ _ _ h => h) (Or.inl ⟨by rfl, ?hy4⟩) hS1 ?_
                                case hy4 => (intro w hSw; (try dsimp only at hSw); go_simp; try with_reducible rfl)
                                simp only [Act.put, List.setIfInBounds_toArray, List.set_cons_zero, List.set_cons_succ]
                                refine Zs.pure (i := 5) (oi := ⟨some 119, _, _, _, _, _⟩) (v := .pointer (some ⟨D, 8, none⟩)) rfl (by kernel_rfl) (by kernel_rfl) (by kernel_rfl) (by decide) (fun _ _ _ h => h) (Or.inl ⟨by rfl, ?hy5⟩) hS1 ?_
                                case hy5 => (intro w hSw; (try dsimp only at hSw); go_simp; try with_reducible rfl)
                                simp only [Act.put, List.setIfInBounds_toArray, List.set_cons_zero, List.set_cons_succ]
                                refine Zs.takeC (i := 6) (oi := ⟨some 120, _, _, _, _, _⟩) (v := .int .i64 a) 8 rfl (by kernel_rfl) (by kernel_rfl) (by kernel_rfl) (by decide) (by kernel_rfl) (by kernel_rfl) (by kernel_rfl) (fun _ _ _ h => h) (Or.inl ⟨by rfl, ?hy6⟩) hS1 ?_
                                case hy6 => (intro w hSw; (try dsimp only at hSw); go_simp; try with_reducible rfl)
                                simp only [Act.put, List.setIfInBounds_toArray, List.set_cons_zero, List.set_cons_succ]
                                refine Zs.one (i := 3) (oi := ⟨some 117, _, _, _, _, _⟩) (by kernel_rfl) rfl (fun K hK => ?_)
                                go_simp
                                refine (hE.out _ ((Below.refl _ _).drew)).mono ?_
                                rintro e V1 ⟨pa, na, ca, rfl, dx1, h2⟩
                                have h2H := hidP h2
                                have hS2 := dx1.2.2.2.2.2.2.2.2
                                clear h2 dx1
                                go_wp2_with fail
                                refine hK.out _ _ (fun _ => hS2) ?_
                                clear hK K
                                try simp only [Act.put, List.setIfInBounds_toArray, List.set_cons_zero, List.set_cons_succ]
                                refine Zs.one (i := 7) (oi := ⟨some 121, _, _, _, _, _⟩) (by kernel_rfl) rfl (fun K hK => ?_)
                                go_simp
                                refine h2H.out.mono ?_
                                rintro e V2 ⟨pb, nb, cb, rfl, dx2, h3⟩
                                have h3H := hidP h3
                                have hS3 := dx2.2.2.2.2.2.2.2.2
                                clear h3 dx2
                                go_wp2_with fail
                                refine hK.out _ _ (fun _ => hS3) ?_
                                clear hK K
                                try simp only [Act.put, List.setIfInBounds_toArray, List.set_cons_zero, List.set_cons_succ]
                                refine Zs.one (i := 8) (oi := ⟨some 122, _, _, _, _, _⟩) (by kernel_rfl) rfl (fun K hK => ?_)
                                go_simp
                                refine h3H.out.mono ?_
                                rintro e V3 ⟨rfl, dx3, hN⟩
                                have hfin := hidP hN
                                have hS4 := dx3.2.2.2.2.2.2.2.2
                                clear hN dx3
                                go_wp2_with fail
                                refine hK.out _ _ (fun _ => hS4) ?_
                                clear hK K
                                try simp only [Act.put, List.setIfInBounds_toArray, List.set_cons_zero, List.set_cons_succ]
                                refine Zs.one (i := 9) (oi := ⟨some 7, _, _, _, _, _⟩) (by kernel_rfl) rfl (fun K hK => ?_)
                                go_simp
                                refine hK.out _ _ (fun q => absurd q (by decide)) ?_
                                clear hK K
                                try simp only [Act.put, List.setIfInBounds_toArray, List.set_cons_zero, List.set_cons_succ]
                                refine Zs.done (by kernel_rfl) ?_ _
                                clear hE h2H h3H hS1 hS2 hS3 hS4
                                go_wp2_with fail
                                go_meet
                                exact ⟨rfl, hfin⟩
                            · have h7' : (wh == 7) = false := by simp [h7]
                              as_aux_lemma =>
                                obtain ⟨_, _, _, hq⟩ := hqH.out
                                obtain ⟨ev, hE'⟩ := forget_two hq (by have := hj9H.out; omega)
                                have hE := hidP hE'
                                clear hE'
                                dsimp only [evS] at hE
                                have hS1 := d6
                                clear hqH hq
                                go_upto_region 14 with fail
                                refine Zs.region (S := fun W' => W'.cell? ⟨D, 6, none⟩ = some (.string u)) 9 (by kernel_rfl) ?_
                                refine Zs.pure (i := 0) (oi := ⟨some 50, _, _, _, _, _⟩) (v := .pointer (some ⟨lb, 0, none⟩)) rfl (by kernel_rfl) (by kernel_rfl) (by kernel_rfl) (by decide) (fun _ _ _ h => h) (Or.inl ⟨by rfl, ?hy0⟩) hS1 ?_
                                case hy0 => (intro w hSw; (try dsimp only at hSw); go_simp; try with_reducible rfl)
                                simp only [Act.put, List.setIfInBounds_toArray, List.set_cons_zero, List.set_cons_succ]
                                refine Zs.pure (i := 1) (oi := ⟨some 51, _, _, _, _, _⟩) (v := .pointer (some ⟨D, 6, none⟩)) rfl (by kernel_rfl) (by kernel_rfl) (by kernel_rfl) (by decide) (fun _ _ _ h => h) (Or.inl ⟨by rfl, ?hy1⟩) hS1 ?_
                                case hy1 => (intro w hSw; (try dsimp only at hSw); go_simp; try with_reducible rfl)
                                simp only [Act.put, List.setIfInBounds_toArray, List.set_cons_zero, List.set_cons_succ]
                                refine Zs.takeC (i := 2) (oi := ⟨some 52, _, _, _, _, _⟩) (v := .string u) 8 rfl (by kernel_rfl) (by kernel_rfl) (by kernel_rfl) (by decide) (by kernel_rfl) (by kernel_rfl) (by kernel_rfl) (fun _ _ _ h => h) (Or.inl ⟨by rfl, ?hy2⟩) hS1 ?_
                                case hy2 => (intro w hSw; (try dsimp only at hSw); go_simp; try with_reducible rfl)
                                simp only [Act.put, List.setIfInBounds_toArray, List.set_cons_zero, List.set_cons_succ]
                                refine Zs.pure (i := 4) (oi := ⟨some 54, _, _, _, _, _⟩) (v := .pointer (some ⟨rb, 0, none⟩)) rfl (by kernel_rfl) (by kernel_rfl) (by kernel_rfl) (by decide) (fun _ _ _ h => h) (Or.inl ⟨by rfl, ?hy4⟩) hS1 ?_
                                case hy4 => (intro w hSw; (try dsimp only at hSw); go_simp; try with_reducible rfl)
                                simp only [Act.put, List.setIfInBounds_toArray, List.set_cons_zero, List.set_cons_succ]
                                refine Zs.pure (i := 5) (oi := ⟨some 55, _, _, _, _, _⟩) (v := .pointer (some ⟨D, 6, none⟩)) rfl (by kernel_rfl) (by kernel_rfl) (by kernel_rfl) (by decide) (fun _ _ _ h => h) (Or.inl ⟨by rfl, ?hy5⟩) hS1 ?_
                                case hy5 => (intro w hSw; (try dsimp only at hSw); go_simp; try with_reducible rfl)
                                simp only [Act.put, List.setIfInBounds_toArray, List.set_cons_zero, List.set_cons_succ]
                                refine Zs.takeC (i := 6) (oi := ⟨some 56, _, _, _, _, _⟩) (v := .string u) 8 rfl (by kernel_rfl) (by kernel_rfl) (by kernel_rfl) (by decide) (by kernel_rfl) (by kernel_rfl) (by kernel_rfl) (fun _ _ _ h => h) (Or.inl ⟨by rfl, ?hy6⟩) hS1 ?_
                                case hy6 => (intro w hSw; (try dsimp only at hSw); go_simp; try with_reducible rfl)
                                simp only [Act.put, List.setIfInBounds_toArray, List.set_cons_zero, List.set_cons_succ]
                                refine Zs.one (i := 3) (oi := ⟨some 53, _, _, _, _, _⟩) (by kernel_rfl) rfl (fun K hK => ?_)
                                go_simp
                                refine (hE.out _ ((Below.refl _ _).drew)).mono ?_
                                rintro e V1 ⟨rfl, dx1, h2⟩
                                have h2H := hidP h2
                                have hS2 := dx1.2.2.2.2.2.2.1
                                clear h2 dx1
                                go_wp2_with fail
                                refine hK.out _ _ (fun _ => hS2) ?_
                                clear hK K
                                try simp only [Act.put, List.setIfInBounds_toArray, List.set_cons_zero, List.set_cons_succ]
                                refine Zs.one (i := 7) (oi := ⟨some 57, _, _, _, _, _⟩) (by kernel_rfl) rfl (fun K hK => ?_)
                                go_simp
                                refine h2H.out.mono ?_
                                rintro e V2 ⟨rfl, dx2, hN⟩
                                have hfin := hidP hN
                                have hS3 := dx2.2.2.2.2.2.2.1
                                clear hN dx2
                                go_wp2_with fail
                                refine hK.out _ _ (fun _ => hS3) ?_
                                clear hK K
                                try simp only [Act.put, List.setIfInBounds_toArray, List.set_cons_zero, List.set_cons_succ]
                                refine Zs.pure (i := 8) (oi := ⟨some 58, _, _, _, _, _⟩) (v := .bool true) rfl (by kernel_rfl) (by kernel_rfl) (by kernel_rfl) (by decide) (fun _ _ _ h => h) (Or.inl ⟨by rfl, ?hy8⟩) hS3 ?_
                                case hy8 => (intro w hSw; (try dsimp only at hSw); go_simp; try with_reducible rfl)
                                simp only [Act.put, List.setIfInBounds_toArray, List.set_cons_zero, List.set_cons_succ]
                                refine Zs.one (i := 9) (oi := ⟨some 7, _, _, _, _, _⟩) (by kernel_rfl) rfl (fun K hK => ?_)
                                go_simp
                                refine hK.out _ _ (fun q => absurd q (by decide)) ?_
                                clear hK K
                                try simp only [Act.put, List.setIfInBounds_toArray, List.set_cons_zero, List.set_cons_succ]
                                refine Zs.done (by kernel_rfl) ?_ _
                                clear hE h2H hS1 hS2 hS3
                                go_wp2_with fail
                                go_meet
                                exact ⟨rfl, hfin⟩
            case rest =>
              obtain ⟨rfl, hT⟩ := hcut
              clear hqH d0 d1 d2 d3 d4 d5 d6 d7 d8
              as_aux_lemma =>
                obtain ⟨L, n2, T, hq⟩ := hT.out
                obtain ⟨pe, ce, pt, ct, sn, av, hTl⟩ := tail_of hq (by have := hj9H.out; omega) hbH.out.1 hbH.out.2
                obtain ⟨ne, hne⟩ : ∃ ne, L.length = ne := ⟨_, rfl⟩
                obtain ⟨nt, hnt⟩ : ∃ nt, T.length = nt := ⟨_, rfl⟩
                rw [hne, hnt] at hTl
                have hTlH := hidP hTl
                obtain ⟨W0, hW0⟩ : ∃ W0, wc = W0 := ⟨_, rfl⟩
                rw [hW0] at hTlH ⊢
                have hSB : Hid (∀ V, Below W0.heap.size W0 V → V.cell? ⟨rb, 0, none⟩ = some (.slice pe ne ce) ∧ V.cell? ⟨rb, 1, none⟩ = some (.slice pt nt ct) ∧ V.cell? ⟨D, 6, none⟩ = some (.string u) ∧ V.cell? ⟨D, 7, none⟩ = some (.string uw)) := fun V b => by
                  have c := hTlH.out.c.below b
                  have d := (hW0 ▸ hq : Pq w1 lb rb D (j + 1) L n2 T ⟨wh, k, p, s, eu, ex, u, uw, a⟩ W0).d.mv (F := fun _ => False) (Mv.below b) (fun f => f)
                  exact ⟨c.1, c.2, d.2.2.2.2.2.2.1, d.2.2.2.2.2.2.2.1⟩
                have hnx : Hid (∀ V, Below W0.heap.size W0 V → Ph w1 lb rb (j + 1) V) := fun V b => ((hW0 ▸ hq : Pq w1 lb rb D (j + 1) L n2 T ⟨wh, k, p, s, eu, ex, u, uw, a⟩ W0).below b).ph
                have hb0 : Hid (Below W0.heap.size W0 W0.drew) := (Below.refl _ _).drew
                have hS0 := hSB.out W0.drew hb0.out
                clear hT hq hTl hne hnt hW0
                rename_i K1 aK1
                refine aK1 _ _ ?_
                clear aK1 K1
                go_upto_region 30 with fail
                refine wp_region_held_drew (S := fun W' => W'.cell? ⟨rb, 0, none⟩ = some (.slice pe ne ce) ∧ W'.cell? ⟨rb, 1, none⟩ = some (.slice pt nt ct) ∧ W'.cell? ⟨D, 6, none⟩ = some (.string u) ∧ W'.cell? ⟨D, 7, none⟩ = some (.string uw)) (by kernel_rfl) hS0 (fun hHeld => ?_)
                clear hHeld
                refine wpAnyH_take (i := 0) (oi := ⟨some 123, _, _, _, _, _⟩) (v := .bool true) rfl (by kernel_rfl) (by kernel_rfl) (by kernel_rfl) (fun _ _ _ h => h) (Or.inl ⟨by rfl, ?hy0⟩) hS0 ?_
                case hy0 => (intro w hSw; (try dsimp only at hSw); go_simp; try with_reducible rfl)
                simp only [Act.put, List.setIfInBounds_toArray, List.set_cons_zero, List.set_cons_succ]
                refine wpAnyH_take (i := 1) (oi := ⟨some 124, _, _, _, _, _⟩) (v := .bool false) rfl (by kernel_rfl) (by kernel_rfl) (by kernel_rfl) (fun _ _ _ h => h) (Or.inl ⟨by rfl, ?hy1⟩) hS0 ?_
                case hy1 => (intro w hSw; (try dsimp only at hSw); go_simp; try with_reducible rfl)
                simp only [Act.put, List.setIfInBounds_toArray, List.set_cons_zero, List.set_cons_succ]
                refine wpAnyH_take (i := 2) (oi := ⟨some 125, _, _, _, _, _⟩) (v := .bool false) rfl (by kernel_rfl) (by kernel_rfl) (by kernel_rfl) (fun _ _ _ h => h) (Or.inl ⟨by rfl, ?hy2⟩) hS0 ?_
                case hy2 => (intro w hSw; (try dsimp only at hSw); go_simp; try with_reducible rfl)
                simp only [Act.put, List.setIfInBounds_toArray, List.set_cons_zero, List.set_cons_succ]
                refine wpAnyH_take (i := 3) (oi := ⟨some 126, _, _, _, _, _⟩) (v := .pointer (some ⟨lb, 0, none⟩)) rfl (by kernel_rfl) (by kernel_rfl) (by kernel_rfl) (fun _ _ _ h => h) (Or.inl ⟨by rfl, ?hy3⟩) hS0 ?_
                case hy3 => (intro w hSw; (try dsimp only at hSw); go_simp; try with_reducible rfl)
                simp only [Act.put, List.setIfInBounds_toArray, List.set_cons_zero, List.set_cons_succ]
                refine wpAnyH_take (i := 5) (oi := ⟨some 128, _, _, _, _, _⟩) (v := .pointer (some ⟨rb, 0, none⟩)) rfl (by kernel_rfl) (by kernel_rfl) (by kernel_rfl) (fun _ _ _ h => h) (Or.inl ⟨by rfl, ?hy5⟩) hS0 ?_
                case hy5 => (intro w hSw; (try dsimp only at hSw); go_simp; try with_reducible rfl)
                simp only [Act.put, List.setIfInBounds_toArray, List.set_cons_zero, List.set_cons_succ]
                refine wpAnyH_take (i := 6) (oi := ⟨some 129, _, _, _, _, _⟩) (v := .pointer (some ⟨rb, 0, none⟩)) rfl (by kernel_rfl) (by kernel_rfl) (by kernel_rfl) (fun _ _ _ h => h) (Or.inl ⟨by rfl, ?hy6⟩) hS0 ?_
                case hy6 => (intro w hSw; (try dsimp only at hSw); go_simp; try with_reducible rfl)
                simp only [Act.put, List.setIfInBounds_toArray, List.set_cons_zero, List.set_cons_succ]
                refine wpAnyH_take (i := 7) (oi := ⟨some 130, _, _, _, _, _⟩) (v := .pointer (some ⟨rb, 0, none⟩)) rfl (by kernel_rfl) (by kernel_rfl) (by kernel_rfl) (fun _ _ _ h => h) (Or.inl ⟨by rfl, ?hy7⟩) hS0 ?_
                case hy7 => (intro w hSw; (try dsimp only at hSw); go_simp; try with_reducible rfl)
                simp only [Act.put, List.setIfInBounds_toArray, List.set_cons_zero, List.set_cons_succ]
                refine wpAnyH_take (i := 8) (oi := ⟨some 131, _, _, _, _, _⟩) (v := .slice pe ne ce) rfl (by kernel_rfl) (by kernel_rfl) (by kernel_rfl) (fun _ _ _ h => h) (Or.inl ⟨by rfl, ?hy8⟩) hS0 ?_
                case hy8 => (intro w hSw; (try dsimp only at hSw); go_simp; try with_reducible rfl)
                simp only [Act.put, List.setIfInBounds_toArray, List.set_cons_zero, List.set_cons_succ]
                refine wpAnyH_take (i := 9) (oi := ⟨some 132, _, _, _, _, _⟩) (v := .int .i64 ne) rfl (by kernel_rfl) (by kernel_rfl) (by kernel_rfl) (fun _ _ _ h => h) (Or.inl ⟨by rfl, ?hy9⟩) hS0 ?_
                case hy9 => (intro w hSw; (try dsimp only at hSw); go_simp; try with_reducible rfl)
                simp only [Act.put, List.setIfInBounds_toArray, List.set_cons_zero, List.set_cons_succ]
                refine wpAnyH_ready (rs := [4]) (by kernel_rfl) (by simp) ?_
                refine AllReadyH.cons (o := ⟨some 127, _, _, _, _, _⟩) rfl (fun K hK => ?_) AllReadyH.nil
                go_simp
                refine (hTlH.out.len _ hb0.out).mono ?_
                rintro e V1 ⟨rfl, b1⟩
                have hb1 := hidP (hb0.out.trans (b1.mono hb0.out.size))
                have hS1 := hSB.out V1 hb1.out
                clear b1 hS0
                go_wp2_with fail
                refine hK.out _ _ hS1 (fun _ => ?_)
                clear hK K
                try simp only [Act.put, List.setIfInBounds_toArray, List.set_cons_zero, List.set_cons_succ]
                refine wpAnyH_take (i := 10) (oi := ⟨some 133, _, _, _, _, _⟩) (v := .bool false) rfl (by kernel_rfl) (by kernel_rfl) (by kernel_rfl) (fun _ _ _ h => h) (Or.inl ⟨by rfl, ?hy10⟩) hS1 ?_
                case hy10 => (intro w hSw; (try dsimp only at hSw); go_simp; try with_reducible rfl)
                simp only [Act.put, List.setIfInBounds_toArray, List.set_cons_zero, List.set_cons_succ]
                refine wpAnyH_take (i := 11) (oi := ⟨some 134, _, _, _, _, _⟩) (v := .bool false) rfl (by kernel_rfl) (by kernel_rfl) (by kernel_rfl) (fun _ _ _ h => h) (Or.inl ⟨by rfl, ?hy11⟩) hS1 ?_
                case hy11 => (intro w hSw; (try dsimp only at hSw); go_simp; try with_reducible rfl)
                simp only [Act.put, List.setIfInBounds_toArray, List.set_cons_zero, List.set_cons_succ]
                refine wpAnyH_take (i := 12) (oi := ⟨some 135, _, _, _, _, _⟩) (v := .bool false) rfl (by kernel_rfl) (by kernel_rfl) (by kernel_rfl) (fun _ _ _ h => h) (Or.inl ⟨by rfl, ?hy12⟩) hS1 ?_
                case hy12 => (intro w hSw; (try dsimp only at hSw); go_simp; try with_reducible rfl)
                simp only [Act.put, List.setIfInBounds_toArray, List.set_cons_zero, List.set_cons_succ]
                refine wpAnyH_take (i := 13) (oi := ⟨some 136, _, _, _, _, _⟩) (v := .pointer (some ⟨lb, 0, none⟩)) rfl (by kernel_rfl) (by kernel_rfl) (by kernel_rfl) (fun _ _ _ h => h) (Or.inl ⟨by rfl, ?hy13⟩) hS1 ?_
                case hy13 => (intro w hSw; (try dsimp only at hSw); go_simp; try with_reducible rfl)
                simp only [Act.put, List.setIfInBounds_toArray, List.set_cons_zero, List.set_cons_succ]
                refine wpAnyH_take (i := 15) (oi := ⟨some 138, _, _, _, _, _⟩) (v := .pointer (some ⟨rb, 0, none⟩)) rfl (by kernel_rfl) (by kernel_rfl) (by kernel_rfl) (fun _ _ _ h => h) (Or.inl ⟨by rfl, ?hy15⟩) hS1 ?_
                case hy15 => (intro w hSw; (try dsimp only at hSw); go_simp; try with_reducible rfl)
                simp only [Act.put, List.setIfInBounds_toArray, List.set_cons_zero, List.set_cons_succ]
                refine wpAnyH_ready (rs := [14]) (by kernel_rfl) (by simp) ?_
                refine AllReadyH.cons (o := ⟨some 137, _, _, _, _, _⟩) rfl (fun K hK => ?_) AllReadyH.nil
                go_simp
                refine (hTlH.out.so _ hb1.out).mono ?_
                rintro e V2 ⟨rfl, b2⟩
                have hb2 := hidP (hb1.out.trans (b2.mono hb1.out.size))
                have hS2 := hSB.out V2 hb2.out
                clear b2 hS1
                go_wp2_with fail
                refine hK.out _ _ hS2 (fun _ => ?_)
                clear hK K
                try simp only [Act.put, List.setIfInBounds_toArray, List.set_cons_zero, List.set_cons_succ]
                refine wpAnyH_ready (rs := [16]) (by kernel_rfl) (by simp) ?_
                refine AllReadyH.cons (o := ⟨some 139, _, _, _, _, _⟩) rfl (fun K hK => ?_) AllReadyH.nil
                go_simp
                refine (hTlH.out.sr _ hb2.out).mono ?_
                rintro e V3 ⟨rfl, b3⟩
                have hb3 := hidP (hb2.out.trans (b3.mono hb2.out.size))
                have hS3 := hSB.out V3 hb3.out
                clear b3 hS2
                go_wp2_with fail
                refine hK.out _ _ hS3 (fun _ => ?_)
                clear hK K
                try simp only [Act.put, List.setIfInBounds_toArray, List.set_cons_zero, List.set_cons_succ]
                refine wpAnyH_take (i := 17) (oi := ⟨some 140, _, _, _, _, _⟩) (v := .bool false) rfl (by kernel_rfl) (by kernel_rfl) (by kernel_rfl) (fun _ _ _ h => h) (Or.inl ⟨by rfl, ?hy17⟩) hS3 ?_
                case hy17 => (intro w hSw; (try dsimp only at hSw); go_simp; try with_reducible rfl)
                simp only [Act.put, List.setIfInBounds_toArray, List.set_cons_zero, List.set_cons_succ]
                refine wpAnyH_take (i := 18) (oi := ⟨some 141, _, _, _, _, _⟩) (v := .bool false) rfl (by kernel_rfl) (by kernel_rfl) (by kernel_rfl) (fun _ _ _ h => h) (Or.inl ⟨by rfl, ?hy18⟩) hS3 ?_
                case hy18 => (intro w hSw; (try dsimp only at hSw); go_simp; try with_reducible rfl)
                simp only [Act.put, List.setIfInBounds_toArray, List.set_cons_zero, List.set_cons_succ]
                refine wpAnyH_take (i := 19) (oi := ⟨some 142, _, _, _, _, _⟩) (v := .bool false) rfl (by kernel_rfl) (by kernel_rfl) (by kernel_rfl) (fun _ _ _ h => h) (Or.inl ⟨by rfl, ?hy19⟩) hS3 ?_
                case hy19 => (intro w hSw; (try dsimp only at hSw); go_simp; try with_reducible rfl)
                simp only [Act.put, List.setIfInBounds_toArray, List.set_cons_zero, List.set_cons_succ]
                refine wpAnyH_take (i := 20) (oi := ⟨some 143, _, _, _, _, _⟩) (v := .pointer (some ⟨lb, 0, none⟩)) rfl (by kernel_rfl) (by kernel_rfl) (by kernel_rfl) (fun _ _ _ h => h) (Or.inl ⟨by rfl, ?hy20⟩) hS3 ?_
                case hy20 => (intro w hSw; (try dsimp only at hSw); go_simp; try with_reducible rfl)
                simp only [Act.put, List.setIfInBounds_toArray, List.set_cons_zero, List.set_cons_succ]
                refine wpAnyH_take (i := 21) (oi := ⟨some 144, _, _, _, _, _⟩) (v := .pointer (some ⟨D, 6, none⟩)) rfl (by kernel_rfl) (by kernel_rfl) (by kernel_rfl) (fun _ _ _ h => h) (Or.inl ⟨by rfl, ?hy21⟩) hS3 ?_
                case hy21 => (intro w hSw; (try dsimp only at hSw); go_simp; try with_reducible rfl)
                simp only [Act.put, List.setIfInBounds_toArray, List.set_cons_zero, List.set_cons_succ]
                refine wpAnyH_take (i := 22) (oi := ⟨some 145, _, _, _, _, _⟩) (v := .string u) rfl (by kernel_rfl) (by kernel_rfl) (by kernel_rfl) (fun _ _ _ h => h) (Or.inl ⟨by rfl, ?hy22⟩) hS3 ?_
                case hy22 => (intro w hSw; (try dsimp only at hSw); go_simp; try with_reducible rfl)
                simp only [Act.put, List.setIfInBounds_toArray, List.set_cons_zero, List.set_cons_succ]
                refine wpAnyH_take (i := 23) (oi := ⟨some 146, _, _, _, _, _⟩) (v := .pointer (some ⟨D, 7, none⟩)) rfl (by kernel_rfl) (by kernel_rfl) (by kernel_rfl) (fun _ _ _ h => h) (Or.inl ⟨by rfl, ?hy23⟩) hS3 ?_
                case hy23 => (intro w hSw; (try dsimp only at hSw); go_simp; try with_reducible rfl)
                simp only [Act.put, List.setIfInBounds_toArray, List.set_cons_zero, List.set_cons_succ]
                refine wpAnyH_take (i := 24) (oi := ⟨some 147, _, _, _, _, _⟩) (v := .string uw) rfl (by kernel_rfl) (by kernel_rfl) (by kernel_rfl) (fun _ _ _ h => h) (Or.inl ⟨by rfl, ?hy24⟩) hS3 ?_
                case hy24 => (intro w hSw; (try dsimp only at hSw); go_simp; try with_reducible rfl)
                simp only [Act.put, List.setIfInBounds_toArray, List.set_cons_zero, List.set_cons_succ]
                refine wpAnyH_take (i := 26) (oi := ⟨some 149, _, _, _, _, _⟩) (v := .pointer (some ⟨rb, 0, none⟩)) rfl (by kernel_rfl) (by kernel_rfl) (by kernel_rfl) (fun _ _ _ h => h) (Or.inl ⟨by rfl, ?hy26⟩) hS3 ?_
                case hy26 => (intro w hSw; (try dsimp only at hSw); go_simp; try with_reducible rfl)
                simp only [Act.put, List.setIfInBounds_toArray, List.set_cons_zero, List.set_cons_succ]
                refine wpAnyH_take (i := 27) (oi := ⟨some 150, _, _, _, _, _⟩) (v := .pointer (some ⟨D, 6, none⟩)) rfl (by kernel_rfl) (by kernel_rfl) (by kernel_rfl) (fun _ _ _ h => h) (Or.inl ⟨by rfl, ?hy27⟩) hS3 ?_
                case hy27 => (intro w hSw; (try dsimp only at hSw); go_simp; try with_reducible rfl)
                simp only [Act.put, List.setIfInBounds_toArray, List.set_cons_zero, List.set_cons_succ]
                refine wpAnyH_take (i := 28) (oi := ⟨some 151, _, _, _, _, _⟩) (v := .string u) rfl (by kernel_rfl) (by kernel_rfl) (by kernel_rfl) (fun _ _ _ h => h) (Or.inl ⟨by rfl, ?hy28⟩) hS3 ?_
                case hy28 => (intro w hSw; (try dsimp only at hSw); go_simp; try with_reducible rfl)
                simp only [Act.put, List.setIfInBounds_toArray, List.set_cons_zero, List.set_cons_succ]
                refine wpAnyH_take (i := 29) (oi := ⟨some 152, _, _, _, _, _⟩) (v := .pointer (some ⟨D, 7, none⟩)) rfl (by kernel_rfl) (by kernel_rfl) (by kernel_rfl) (fun _ _ _ h => h) (Or.inl ⟨by rfl, ?hy29⟩) hS3 ?_
                case hy29 => (intro w hSw; (try dsimp only at hSw); go_simp; try with_reducible rfl)
                simp only [Act.put, List.setIfInBounds_toArray, List.set_cons_zero, List.set_cons_succ]
                refine wpAnyH_take (i := 30) (oi := ⟨some 153, _, _, _, _, _⟩) (v := .string uw) rfl (by kernel_rfl) (by kernel_rfl) (by kernel_rfl) (fun _ _ _ h => h) (Or.inl ⟨by rfl, ?hy30⟩) hS3 ?_
                case hy30 => (intro w hSw; (try dsimp only at hSw); go_simp; try with_reducible rfl)
                simp only [Act.put, List.setIfInBounds_toArray, List.set_cons_zero, List.set_cons_succ]
                refine wpAnyH_ready (rs := [25]) (by kernel_rfl) (by simp) ?_
                refine AllReadyH.cons (o := ⟨some 148, _, _, _, _, _⟩) rfl (fun K hK => ?_) AllReadyH.nil
                go_simp
                refine (hTlH.out.ac _ hb3.out).mono ?_
                rintro e V4 ⟨rfl, b4⟩
                have hb4 := hidP (hb3.out.trans (b4.mono hb3.out.size))
                have hS4 := hSB.out V4 hb4.out
                clear b4 hS3
                go_wp2_with fail
                refine hK.out _ _ hS4 (fun _ => ?_)
                clear hK K
                try simp only [Act.put, List.setIfInBounds_toArray, List.set_cons_zero, List.set_cons_succ]
                refine wpAnyH_ready (rs := [31]) (by kernel_rfl) (by simp) ?_
                refine AllReadyH.cons (o := ⟨some 154, _, _, _, _, _⟩) rfl (fun K hK => ?_) AllReadyH.nil
                go_simp
                refine (hTlH.out.ar _ hb4.out).mono ?_
                rintro e V5 ⟨rfl, b5⟩
                have hb5 := hidP (hb4.out.trans (b5.mono hb4.out.size))
                have hS5 := hSB.out V5 hb5.out
                clear b5 hS4
                go_wp2_with fail
                refine hK.out _ _ hS5 (fun _ => ?_)
                clear hK K
                try simp only [Act.put, List.setIfInBounds_toArray, List.set_cons_zero, List.set_cons_succ]
                refine wpAnyH_take (i := 32) (oi := ⟨some 155, _, _, _, _, _⟩) (v := .bool false) rfl (by kernel_rfl) (by kernel_rfl) (by kernel_rfl) (fun _ _ _ h => h) (Or.inl ⟨by rfl, ?hy32⟩) hS5 ?_
                case hy32 => (intro w hSw; (try dsimp only at hSw); go_simp; try with_reducible rfl)
                simp only [Act.put, List.setIfInBounds_toArray, List.set_cons_zero, List.set_cons_succ]
                refine wpAnyH_take (i := 33) (oi := ⟨some 156, _, _, _, _, _⟩) (v := .bool false) rfl (by kernel_rfl) (by kernel_rfl) (by kernel_rfl) (fun _ _ _ h => h) (Or.inl ⟨by rfl, ?hy33⟩) hS5 ?_
                case hy33 => (intro w hSw; (try dsimp only at hSw); go_simp; try with_reducible rfl)
                simp only [Act.put, List.setIfInBounds_toArray, List.set_cons_zero, List.set_cons_succ]
                refine wpAnyH_take (i := 34) (oi := ⟨some 157, _, _, _, _, _⟩) (v := .bool false) rfl (by kernel_rfl) (by kernel_rfl) (by kernel_rfl) (fun _ _ _ h => h) (Or.inl ⟨by rfl, ?hy34⟩) hS5 ?_
                case hy34 => (intro w hSw; (try dsimp only at hSw); go_simp; try with_reducible rfl)
                simp only [Act.put, List.setIfInBounds_toArray, List.set_cons_zero, List.set_cons_succ]
                refine wpAnyH_take (i := 35) (oi := ⟨some 158, _, _, _, _, _⟩) (v := .pointer (some ⟨lb, 0, none⟩)) rfl (by kernel_rfl) (by kernel_rfl) (by kernel_rfl) (fun _ _ _ h => h) (Or.inl ⟨by rfl, ?hy35⟩) hS5 ?_
                case hy35 => (intro w hSw; (try dsimp only at hSw); go_simp; try with_reducible rfl)
                simp only [Act.put, List.setIfInBounds_toArray, List.set_cons_zero, List.set_cons_succ]
                refine wpAnyH_take (i := 37) (oi := ⟨some 160, _, _, _, _, _⟩) (v := .pointer (some ⟨rb, 0, none⟩)) rfl (by kernel_rfl) (by kernel_rfl) (by kernel_rfl) (fun _ _ _ h => h) (Or.inl ⟨by rfl, ?hy37⟩) hS5 ?_
                case hy37 => (intro w hSw; (try dsimp only at hSw); go_simp; try with_reducible rfl)
                simp only [Act.put, List.setIfInBounds_toArray, List.set_cons_zero, List.set_cons_succ]
                refine wpAnyH_take (i := 38) (oi := ⟨some 161, _, _, _, _, _⟩) (v := .pointer (some ⟨rb, 0, none⟩)) rfl (by kernel_rfl) (by kernel_rfl) (by kernel_rfl) (fun _ _ _ h => h) (Or.inl ⟨by rfl, ?hy38⟩) hS5 ?_
                case hy38 => (intro w hSw; (try dsimp only at hSw); go_simp; try with_reducible rfl)
                simp only [Act.put, List.setIfInBounds_toArray, List.set_cons_zero, List.set_cons_succ]
                refine wpAnyH_take (i := 39) (oi := ⟨some 162, _, _, _, _, _⟩) (v := .pointer (some ⟨rb, 0, none⟩)) rfl (by kernel_rfl) (by kernel_rfl) (by kernel_rfl) (fun _ _ _ h => h) (Or.inl ⟨by rfl, ?hy39⟩) hS5 ?_
                case hy39 => (intro w hSw; (try dsimp only at hSw); go_simp; try with_reducible rfl)
                simp only [Act.put, List.setIfInBounds_toArray, List.set_cons_zero, List.set_cons_succ]
                refine wpAnyH_take (i := 40) (oi := ⟨some 163, _, _, _, _, _⟩) (v := .slice pe ne ce) rfl (by kernel_rfl) (by kernel_rfl) (by kernel_rfl) (fun _ _ _ h => h) (Or.inl ⟨by rfl, ?hy40⟩) hS5 ?_
                case hy40 => (intro w hSw; (try dsimp only at hSw); go_simp; try with_reducible rfl)
                simp only [Act.put, List.setIfInBounds_toArray, List.set_cons_zero, List.set_cons_succ]
                refine wpAnyH_ready (rs := [36]) (by kernel_rfl) (by simp) ?_
                refine AllReadyH.cons (o := ⟨some 159, _, _, _, _, _⟩) rfl (fun K hK => ?_) AllReadyH.nil
                go_simp
                refine (hTlH.out.ev _ hb5.out).mono ?_
                rintro e V6 ⟨yp, yn, yc, rfl, b6, hy⟩
                have hyH := hidP hy
                have hb6 := hidP (hb5.out.trans (b6.mono hb5.out.size))
                have hS6 := hSB.out V6 hb6.out
                clear b6 hy hS5
                go_wp2_with fail
                refine hK.out _ _ hS6 (fun _ => ?_)
                clear hK K
                try simp only [Act.put, List.setIfInBounds_toArray, List.set_cons_zero, List.set_cons_succ]
                refine wpAnyH_ready (rs := [41]) (by kernel_rfl) (by simp) ?_
                refine AllReadyH.cons (o := ⟨some 164, _, _, _, _, _⟩) rfl (fun K hK => ?_) AllReadyH.nil
                go_simp
                refine hyH.out.mono ?_
                rintro e V7 ⟨rfl, b7⟩
                have hb7 := hidP (hb6.out.trans (b7.mono hb6.out.size))
                have hS7 := hSB.out V7 hb7.out
                clear b7 hS6
                go_wp2_with fail
                refine hK.out _ _ hS7 (fun _ => ?_)
                clear hK K
                try simp only [Act.put, List.setIfInBounds_toArray, List.set_cons_zero, List.set_cons_succ]
                refine wpAnyH_take (i := 42) (oi := ⟨some 165, _, _, _, _, _⟩) (v := .bool false) rfl (by kernel_rfl) (by kernel_rfl) (by kernel_rfl) (fun _ _ _ h => h) (Or.inl ⟨by rfl, ?hy42⟩) hS7 ?_
                case hy42 => (intro w hSw; (try dsimp only at hSw); go_simp; try with_reducible rfl)
                simp only [Act.put, List.setIfInBounds_toArray, List.set_cons_zero, List.set_cons_succ]
                refine wpAnyH_take (i := 43) (oi := ⟨some 166, _, _, _, _, _⟩) (v := .bool false) rfl (by kernel_rfl) (by kernel_rfl) (by kernel_rfl) (fun _ _ _ h => h) (Or.inl ⟨by rfl, ?hy43⟩) hS7 ?_
                case hy43 => (intro w hSw; (try dsimp only at hSw); go_simp; try with_reducible rfl)
                simp only [Act.put, List.setIfInBounds_toArray, List.set_cons_zero, List.set_cons_succ]
                refine wpAnyH_take (i := 44) (oi := ⟨some 167, _, _, _, _, _⟩) (v := .bool false) rfl (by kernel_rfl) (by kernel_rfl) (by kernel_rfl) (fun _ _ _ h => h) (Or.inl ⟨by rfl, ?hy44⟩) hS7 ?_
                case hy44 => (intro w hSw; (try dsimp only at hSw); go_simp; try with_reducible rfl)
                simp only [Act.put, List.setIfInBounds_toArray, List.set_cons_zero, List.set_cons_succ]
                refine wpAnyH_take (i := 45) (oi := ⟨some 168, _, _, _, _, _⟩) (v := .pointer (some ⟨lb, 0, none⟩)) rfl (by kernel_rfl) (by kernel_rfl) (by kernel_rfl) (fun _ _ _ h => h) (Or.inl ⟨by rfl, ?hy45⟩) hS7 ?_
                case hy45 => (intro w hSw; (try dsimp only at hSw); go_simp; try with_reducible rfl)
                simp only [Act.put, List.setIfInBounds_toArray, List.set_cons_zero, List.set_cons_succ]
                refine wpAnyH_take (i := 47) (oi := ⟨some 170, _, _, _, _, _⟩) (v := .pointer (some ⟨rb, 0, none⟩)) rfl (by kernel_rfl) (by kernel_rfl) (by kernel_rfl) (fun _ _ _ h => h) (Or.inl ⟨by rfl, ?hy47⟩) hS7 ?_
                case hy47 => (intro w hSw; (try dsimp only at hSw); go_simp; try with_reducible rfl)
                simp only [Act.put, List.setIfInBounds_toArray, List.set_cons_zero, List.set_cons_succ]
                refine wpAnyH_take (i := 48) (oi := ⟨some 171, _, _, _, _, _⟩) (v := .pointer (some ⟨rb, 0, none⟩)) rfl (by kernel_rfl) (by kernel_rfl) (by kernel_rfl) (fun _ _ _ h => h) (Or.inl ⟨by rfl, ?hy48⟩) hS7 ?_
                case hy48 => (intro w hSw; (try dsimp only at hSw); go_simp; try with_reducible rfl)
                simp only [Act.put, List.setIfInBounds_toArray, List.set_cons_zero, List.set_cons_succ]
                refine wpAnyH_take (i := 49) (oi := ⟨some 172, _, _, _, _, _⟩) (v := .pointer (some ⟨rb, 1, none⟩)) rfl (by kernel_rfl) (by kernel_rfl) (by kernel_rfl) (fun _ _ _ h => h) (Or.inl ⟨by rfl, ?hy49⟩) hS7 ?_
                case hy49 => (intro w hSw; (try dsimp only at hSw); go_simp; try with_reducible rfl)
                simp only [Act.put, List.setIfInBounds_toArray, List.set_cons_zero, List.set_cons_succ]
                refine wpAnyH_take (i := 50) (oi := ⟨some 173, _, _, _, _, _⟩) (v := .slice pt nt ct) rfl (by kernel_rfl) (by kernel_rfl) (by kernel_rfl) (fun _ _ _ h => h) (Or.inl ⟨by rfl, ?hy50⟩) hS7 ?_
                case hy50 => (intro w hSw; (try dsimp only at hSw); go_simp; try with_reducible rfl)
                simp only [Act.put, List.setIfInBounds_toArray, List.set_cons_zero, List.set_cons_succ]
                refine wpAnyH_ready (rs := [46]) (by kernel_rfl) (by simp) ?_
                refine AllReadyH.cons (o := ⟨some 169, _, _, _, _, _⟩) rfl (fun K hK => ?_) AllReadyH.nil
                go_simp
                refine (hTlH.out.ti _ hb7.out).mono ?_
                rintro e V8 ⟨zp, zn, zc, rfl, b8, hz⟩
                have hzH := hidP hz
                have hb8 := hidP (hb7.out.trans (b8.mono hb7.out.size))
                have hS8 := hSB.out V8 hb8.out
                clear b8 hz hS7
                go_wp2_with fail
                refine hK.out _ _ hS8 (fun _ => ?_)
                clear hK K
                try simp only [Act.put, List.setIfInBounds_toArray, List.set_cons_zero, List.set_cons_succ]
                refine wpAnyH_ready (rs := [51]) (by kernel_rfl) (by simp) ?_
                refine AllReadyH.cons (o := ⟨some 174, _, _, _, _, _⟩) rfl (fun K hK => ?_) AllReadyH.nil
                go_simp
                refine hzH.out.mono ?_
                rintro e V9 ⟨rfl, b9⟩
                have hb9 := hidP (hb8.out.trans (b9.mono hb8.out.size))
                have hS9 := hSB.out V9 hb9.out
                clear b9 hS8
                go_wp2_with fail
                refine hK.out _ _ hS9 (fun _ => ?_)
                clear hK K
                try simp only [Act.put, List.setIfInBounds_toArray, List.set_cons_zero, List.set_cons_succ]
                refine wpAnyH_take (i := 52) (oi := ⟨some 175, _, _, _, _, _⟩) (v := .bool false) rfl (by kernel_rfl) (by kernel_rfl) (by kernel_rfl) (fun _ _ _ h => h) (Or.inl ⟨by rfl, ?hy52⟩) hS9 ?_
                case hy52 => (intro w hSw; (try dsimp only at hSw); go_simp; try with_reducible rfl)
                simp only [Act.put, List.setIfInBounds_toArray, List.set_cons_zero, List.set_cons_succ]
                refine wpAnyH_take (i := 53) (oi := ⟨some 176, _, _, _, _, _⟩) (v := .bool false) rfl (by kernel_rfl) (by kernel_rfl) (by kernel_rfl) (fun _ _ _ h => h) (Or.inl ⟨by rfl, ?hy53⟩) hS9 ?_
                case hy53 => (intro w hSw; (try dsimp only at hSw); go_simp; try with_reducible rfl)
                simp only [Act.put, List.setIfInBounds_toArray, List.set_cons_zero, List.set_cons_succ]
                refine wpAnyH_done (by kernel_rfl) ?_ _
                have fin := hidP (hnx.out _ hb9.out)
                clear hS9 hb0 hb1 hb2 hb3 hb4 hb5 hb6 hb7 hb8 hb9 hyH hzH hTlH hSB hnx
                go_wp2_with fail
                exact ⟨⟨j + 1, by omega, by go_num, fin⟩, by simp [intOf]; omega⟩
      · obtain rfl : j = n := by omega
        have hjI : ¬ (j : Int) < (j : Int) := by omega
        obtain ⟨pe, ne, ce, z0, hl⟩ := hst.out.last h100
        have hlH := hidP hl
        have bwH := hidP bw
        clear hst hl bw
        by_cases hne : ne = 0
        · subst hne
          clear hlH
          go_wp2_with fail
          go_ret
          exact ⟨rfl, bwH.out⟩
        · have hl2 := hidP (hlH.out hne)
          have hneI : ¬ (ne : Int) = 0 := by omega
          have hneB : ((ne : Int) == 0) = false := by simpa using hneI
          clear hlH
          go_wp2_with fail
          refine hl2.out.mono ?_
          rintro e V ⟨p, c, rfl, b1⟩
          have fin := hidP (bwH.out.trans (b1.mono bwH.out.size))
          clear hl2 b1
          go_wp2_with fail
          go_ret
          exact ⟨rfl, fin.out⟩
  · have e1 : (100 : Int) < (n : Int) := by omega
    go_enter Tryz.func3, Tryz.ntmps3
    go_wp2_with fail
    refine hK.out.mono ?_
    rintro e w1 ⟨rfl, bw1⟩
    have fin := hidP bw1
    clear bw1 hK
    go_wp2_with fail
    go_ret
    exact ⟨rfl, fin.out⟩
theorem plays_own (p0 : Option Addr) (n c0 : Nat) (w : World) (h : ∃ l : List Stp, l.length = n ∧ StepsAt w p0 l ∧ n ≤ 140737488355328) :
    Calls Tryz.prog 3 #[.slice p0 n c0] w fun e V => e = .returned (.bool true) ∧ Below w.heap.size w V := by
  obtain ⟨ss, h⟩ := h
  exact plays_walk p0 n c0 ss w h
end Go.Proofs.YtdcidlgmnnaahaaGreat
