/- ProcPlays. -/
import Derived.Test.YtcikjnifkoagpaaLU
import Derived.Deep.LoopGhost
import Derived.Deep.RegionHeld3
import Derived.OpenShut
import Derived.Deep.DeepCutAuto
namespace Go.Proofs.Ytcikjnifkoagpaa
open Go.RowKit Go.Shelf
attribute [local go_sem] Oper.semAt_some
theorem bcellP {w W : World} (b : Below w.heap.size w W) {a : Addr} {v : Value} (c : w.cell? a = some v) : W.cell? a = some v := (Mv.below (E := fun _ => False) b).cell (fun h => h) c
theorem hidQ {p : Prop} (h : p) : Hid p := h
/-- Between two rounds. -/
def Ph (w : World) (bt bm rb : Nat) (room : Int) (j : Nat) (W : World) : Prop := ∃ last l, Md w (fun _ => False) bt bm rb room last l last (one :: l) W ∧ Wf room last l ∧ last ≤ 1 + j
set_option maxRecDepth 100000 in
set_option maxHeartbeats 8000000 in
theorem plays_walk (rm : Int) (p0 : Option Addr) (n c0 : Nat) (ss : List Stp) (w : World) (_r1 : -9223372036854775808 ≤ rm) (_r2 : rm ≤ 9223372036854775807) (hss : ss.length = n ∧ StepsAt w p0 ss ∧ n ≤ 140737488355328) :
    Calls Try.prog 3 #[.int .i64 rm, .slice p0 n c0] w fun e V => e = .returned (.bool true) ∧ Below w.heap.size w V := by
  obtain ⟨hn, hs, hll⟩ := hss
  have hK := hidQ (known_any w)
  have hnH := hidQ hn
  have hsH := hidQ hs
  clear hn hs
  by_cases h120 : n ≤ 120
  · have e1 : ¬ (120 : Int) < (n : Int) := by omega
    have hnI : (n : Int) ≤ 120 := by omega
    go_enter Try.func3, Try.ntmps3
    go_wp2_with fail
    refine hK.out.mono ?_
    rintro e w1 ⟨rfl, bw1⟩
    have bw1H := hidQ bw1
    have hN := hidQ (new_n rm w1)
    clear bw1 hK
    go_wp2_with fail
    refine hN.out.mono ?_
    rintro e w2 ⟨bt, bm, rfl, t2⟩
    have hR := hidQ (rnew_any rm w2)
    have t2H := hidQ t2
    clear t2 hN
    go_wp2_with fail
    refine hR.out.mono ?_
    rintro e w3 ⟨rb, g0, rfl, lb, lg, ro, b3⟩
    have hP0 : Hid (Ph w1 bt bm rb (roomOf rm) 0 w3) := by
      have t2 := t2H.out
      have lts := t2.tb.lts
      have bs := t2.be.size
      exact ⟨1, [], ⟨g0, 1, t2.below b3, ro, by omega, by omega, fun _ f => f.elim⟩, Wf.new rm, by omega⟩
    clear hR t2H lb lg ro b3
    go_wp2_with fail
    go_loopw [7] (fun i wr => ∃ (j : Nat), j ≤ n ∧ i = .int .i64 j ∧ Hid (Ph w1 bt bm rb (roomOf rm) j wr)) (fun i _ => n - (intOf i).toNat)
    case atStart => exact ⟨0, by omega, rfl, hP0⟩
    case round =>
      obtain ⟨j, hj, rfl, hst⟩ := hrel
      clear hP0
      obtain ⟨last, l, hM, hW, hla⟩ := hst.out
      have bw : Below w.heap.size w wr := by
        obtain ⟨_, _, m⟩ := hM
        exact bw1H.out.trans (m.t.be.mono bw1H.out.size)
      by_cases hlt : j < n
      · have hjI : (j : Int) < (n : Int) := by omega
        obtain ⟨x, hx⟩ : ∃ x, ss[j]? = some x := ⟨_, List.getElem?_eq_getElem (by rw [hnH.out]; exact hlt)⟩
        obtain ⟨xok, b, o, rfl, k0, k1, k2, k3, k4⟩ := hsH.out j x hx
        obtain ⟨wh, ka, kb, gg, cc⟩ := x
        obtain ⟨_, ok1, _, ok3, ok4⟩ := xok
        have hka : bd ka := bounds_i64 ok1
        have k0 := bcellP bw k0
        have k1 := bcellP bw k1
        have k2 := bcellP bw k2
        have k3 := bcellP bw k3
        have k4 := bcellP bw k4
        obtain ⟨A, hA⟩ : ∃ A, wr.alloc (.cells #[.int .i64 wh, .int .i64 ka, .int .i64 kb, .string gg, .string cc] 29) = A := ⟨_, rfl⟩
        obtain ⟨D, hD⟩ : ∃ D, wr.heap.size = D := ⟨_, rfl⟩
        have bA : Below wr.heap.size wr A := by rw [← hA]; exact (Below.refl _ _).alloc (Nat.le_refl _) _
        have sA : A.heap.size = D + 1 := by rw [← hA]; simp [hD]
        have hdx : Dx D (wh, ka, kb, gg, cc) A := by rw [← hA]; exact ⟨cell_at hD rfl, cell_at hD rfl, cell_at hD rfl, cell_at hD rfl, cell_at hD rfl⟩
        have hq : Pq w1 bt bm rb D (roomOf rm) last l (wh, ka, kb, gg, cc) A := ⟨hM.next (F := fun _ => False) (Mv.below bA) (fun _ f => f.elim) (fun k hk => .inr ⟨by omega, by omega⟩), hW, hdx⟩
        have hqH := hidQ hq
        have finA : Hid (Below w.heap.size w A) := bw.trans (bA.mono bw.size)
        have hlaH : Hid (last ≤ 1 + j) := hla
        obtain ⟨d0, d1, d2, d3, d4⟩ := hdx
        have g1 : (gg.size : Int) ≤ 140737488355328 := by have : gg.size ≤ 140737488355328 := ok3; omega
        have c1 : (cc.size : Int) ≤ 140737488355328 := by have : cc.size ≤ 140737488355328 := ok4; omega
        clear hst hM hW bw hx bA hq hla ok1 ok3 ok4
        by_cases hg : gg.size ≤ 100
        · by_cases hc : cc.size ≤ 100
          · have hgI : ¬ (100 : Int) < (gg.size : Int) := by omega
            have hcI : ¬ (100 : Int) < (cc.size : Int) := by omega
            have hgD : decide ((100 : Int) < (gg.size : Int)) = false := decide_eq_false hgI
            have hcD : decide ((100 : Int) < (cc.size : Int)) = false := decide_eq_false hcI
            go_upto_region 13 with (rw [hA])
            go_cut [9, 10, 11, 12] (fun a b c d wx => a = .int .i64 0 ∧ b = .int .i64 0 ∧ c = .int .i64 0 ∧ d = .int .i64 0 ∧ wx = A)
            case first =>
              go_wp2_with fail
              go_meet
              exact ⟨rfl, rfl, rfl, rfl, rfl⟩
            case rest =>
              obtain ⟨rfl, rfl, rfl, rfl, rfl⟩ := hcut
              clear hA
              rename_i K1 aK1
              refine aK1 _ _ ?_
              clear aK1 K1
              go_step
              go_cut [9, 10, 11, 12] (fun a b c d wx => ∃ nn ee : Int, a = .int .i64 nn ∧ b = .int .i64 nn ∧ c = .int .i64 ee ∧ d = .int .i64 ee ∧ Hid (∃ last l, last ≤ 2 + (j : Int) ∧ Pq w1 bt bm rb D (roomOf rm) last l (wh, ka, kb, gg, cc) wx))
              case first =>
                by_cases h0 : wh = 0
                · subst h0
                  as_aux_lemma =>
                    obtain ⟨n1, e1', hcall⟩ := spawn_two hqH.out (by have := hlaH.out; omega) ka hka gg cc
                    have hS := hidQ hcall
                    unfold ptr at hS
                    clear hcall hqH
                    go_wp2_with fail
                    refine hS.out.mono ?_
                    rintro e V ⟨rfl, hd, h2⟩
                    obtain ⟨q0, q1, q2, q3, q4⟩ := hd
                    have h2H := hidQ h2
                    unfold ptr at h2H
                    clear h2 hS
                    go_wp2_with fail
                    refine h2H.out.mono ?_
                    rintro e V2 ⟨rfl, last', l', hle, hq2⟩
                    have hfin : Hid (∃ last l, last ≤ 2 + (j : Int) ∧ Pq w1 bt bm rb D (roomOf rm) last l (0, ka, kb, gg, cc) V2) := ⟨last', l', by have := hlaH.out; omega, hq2⟩
                    clear h2H hq2 hle
                    go_wp2_with fail
                    go_meet
                    exact ⟨n1, e1', rfl, rfl, rfl, rfl, hfin⟩
                · have h0' : (wh == 0) = false := by simp [h0]
                  by_cases h1 : wh = 1
                  · subst h1
                    as_aux_lemma =>
                      obtain ⟨n1, e1', hcall⟩ := spawn_two hqH.out (by have := hlaH.out; omega) ka hka gg cc
                      have hS := hidQ hcall
                      unfold ptr at hS
                      clear hcall hqH
                      go_wp2_with fail
                      refine hS.out.mono ?_
                      rintro e V ⟨rfl, hd, h2⟩
                      obtain ⟨q0, q1, q2, q3, q4⟩ := hd
                      have h2H := hidQ h2
                      unfold ptr at h2H
                      clear h2 hS
                      go_wp2_with fail
                      refine h2H.out.mono ?_
                      rintro e V2 ⟨rfl, last', l', hle, hq2⟩
                      have hfin : Hid (∃ last l, last ≤ 2 + (j : Int) ∧ Pq w1 bt bm rb D (roomOf rm) last l (1, ka, kb, gg, cc) V2) := ⟨last', l', by have := hlaH.out; omega, hq2⟩
                      clear h2H hq2 hle
                      go_wp2_with fail
                      go_meet
                      exact ⟨n1, e1', rfl, rfl, rfl, rfl, hfin⟩
                  · have h1' : (wh == 1) = false := by simp [h1]
                    by_cases h2 : wh = 2
                    · subst h2
                      as_aux_lemma =>
                        obtain ⟨n1, e1', hcall⟩ := spawn_two hqH.out (by have := hlaH.out; omega) ka hka gg cc
                        have hS := hidQ hcall
                        unfold ptr at hS
                        clear hcall hqH
                        go_wp2_with fail
                        refine hS.out.mono ?_
                        rintro e V ⟨rfl, hd, h2⟩
                        obtain ⟨q0, q1, q2, q3, q4⟩ := hd
                        have h2H := hidQ h2
                        unfold ptr at h2H
                        clear h2 hS
                        go_wp2_with fail
                        refine h2H.out.mono ?_
                        rintro e V2 ⟨rfl, last', l', hle, hq2⟩
                        have hfin : Hid (∃ last l, last ≤ 2 + (j : Int) ∧ Pq w1 bt bm rb D (roomOf rm) last l (2, ka, kb, gg, cc) V2) := ⟨last', l', by have := hlaH.out; omega, hq2⟩
                        clear h2H hq2 hle
                        go_wp2_with fail
                        go_meet
                        exact ⟨n1, e1', rfl, rfl, rfl, rfl, hfin⟩
                    · have h2' : (wh == 2) = false := by simp [h2]
                      by_cases h3 : wh = 3
                      · subst h3
                        as_aux_lemma =>
                          obtain ⟨n1, e1', hcall⟩ := fork_two hqH.out (by have := hlaH.out; omega) ka hka
                          have hS := hidQ hcall
                          unfold ptr at hS
                          clear hcall hqH
                          go_wp2_with fail
                          refine hS.out.mono ?_
                          rintro e V ⟨rfl, hd, h2⟩
                          obtain ⟨q0, q1, q2, q3, q4⟩ := hd
                          have h2H := hidQ h2
                          unfold ptr at h2H
                          clear h2 hS
                          go_wp2_with fail
                          refine h2H.out.mono ?_
                          rintro e V2 ⟨rfl, last', l', hle, hq2⟩
                          have hfin : Hid (∃ last l, last ≤ 2 + (j : Int) ∧ Pq w1 bt bm rb D (roomOf rm) last l (3, ka, kb, gg, cc) V2) := ⟨last', l', by have := hlaH.out; omega, hq2⟩
                          clear h2H hq2 hle
                          go_wp2_with fail
                          go_meet
                          exact ⟨n1, e1', rfl, rfl, rfl, rfl, hfin⟩
                      · have h3' : (wh == 3) = false := by simp [h3]
                        by_cases h4 : wh = 4
                        · subst h4
                          as_aux_lemma =>
                            obtain ⟨n1, e1', hcall⟩ := fork_two hqH.out (by have := hlaH.out; omega) ka hka
                            have hS := hidQ hcall
                            unfold ptr at hS
                            clear hcall hqH
                            go_wp2_with fail
                            refine hS.out.mono ?_
                            rintro e V ⟨rfl, hd, h2⟩
                            obtain ⟨q0, q1, q2, q3, q4⟩ := hd
                            have h2H := hidQ h2
                            unfold ptr at h2H
                            clear h2 hS
                            go_wp2_with fail
                            refine h2H.out.mono ?_
                            rintro e V2 ⟨rfl, last', l', hle, hq2⟩
                            have hfin : Hid (∃ last l, last ≤ 2 + (j : Int) ∧ Pq w1 bt bm rb D (roomOf rm) last l (4, ka, kb, gg, cc) V2) := ⟨last', l', by have := hlaH.out; omega, hq2⟩
                            clear h2H hq2 hle
                            go_wp2_with fail
                            go_meet
                            exact ⟨n1, e1', rfl, rfl, rfl, rfl, hfin⟩
                        · have h4' : (wh == 4) = false := by simp [h4]
                          by_cases h5 : wh = 5
                          · subst h5
                            as_aux_lemma =>
                              obtain ⟨ev, hE'⟩ := exit_dual hqH.out (by have := hlaH.out; omega) hka
                              have hE := hidQ hE'
                              have hS1 := And.intro d1 d2
                              clear hqH hE'
                              go_upto_region 31 with fail
                              refine Zs.region (S := fun w' => w'.cell? ⟨D, 1, none⟩ = some (.int .i64 ka) ∧ w'.cell? ⟨D, 2, none⟩ = some (.int .i64 kb)) 13 (by kernel_rfl) ?_
                              refine Zs.pure (i := 0) (oi := ⟨some 121, _, _, _, _, _⟩) (v := .pointer (some ⟨bt, 0, none⟩)) rfl (by kernel_rfl) (by kernel_rfl) (by kernel_rfl) (by decide) (fun _ _ _ h => h) (Or.inl ⟨by rfl, ?hy0⟩) hS1 ?_
                              case hy0 => (intro w hSw; (try dsimp only at hSw); go_simp; try with_reducible rfl)
                              simp only [Act.put, List.setIfInBounds_toArray, List.set_cons_zero, List.set_cons_succ]
                              refine Zs.pure (i := 1) (oi := ⟨some 122, _, _, _, _, _⟩) (v := .pointer (some ⟨D, 1, none⟩)) rfl (by kernel_rfl) (by kernel_rfl) (by kernel_rfl) (by decide) (fun _ _ _ h => h) (Or.inl ⟨by rfl, ?hy1⟩) hS1 ?_
                              case hy1 => (intro w hSw; (try dsimp only at hSw); go_simp; try with_reducible rfl)
                              simp only [Act.put, List.setIfInBounds_toArray, List.set_cons_zero, List.set_cons_succ]
                              refine Zs.take (i := 2) (oi := ⟨some 123, _, _, _, _, _⟩) (v := .int .i64 ka) rfl (by kernel_rfl) (by kernel_rfl) (by kernel_rfl) (by decide) (by kernel_rfl) (by kernel_rfl) (fun _ _ _ h => h) (Or.inl ⟨by rfl, ?hy2⟩) hS1 ?_
                              case hy2 => (intro w hSw; (try dsimp only at hSw); go_simp; try with_reducible rfl)
                              simp only [Act.put, List.setIfInBounds_toArray, List.set_cons_zero, List.set_cons_succ]
                              refine Zs.pure (i := 3) (oi := ⟨some 124, _, _, _, _, _⟩) (v := .pointer (some ⟨D, 2, none⟩)) rfl (by kernel_rfl) (by kernel_rfl) (by kernel_rfl) (by decide) (fun _ _ _ h => h) (Or.inl ⟨by rfl, ?hy3⟩) hS1 ?_
                              case hy3 => (intro w hSw; (try dsimp only at hSw); go_simp; try with_reducible rfl)
                              simp only [Act.put, List.setIfInBounds_toArray, List.set_cons_zero, List.set_cons_succ]
                              refine Zs.take (i := 4) (oi := ⟨some 125, _, _, _, _, _⟩) (v := .int .i64 kb) rfl (by kernel_rfl) (by kernel_rfl) (by kernel_rfl) (by decide) (by kernel_rfl) (by kernel_rfl) (fun _ _ _ h => h) (Or.inl ⟨by rfl, ?hy4⟩) hS1 ?_
                              case hy4 => (intro w hSw; (try dsimp only at hSw); go_simp; try with_reducible rfl)
                              simp only [Act.put, List.setIfInBounds_toArray, List.set_cons_zero, List.set_cons_succ]
                              refine Zs.pure (i := 6) (oi := ⟨some 127, _, _, _, _, _⟩) (v := .pointer (some ⟨rb, 0, none⟩)) rfl (by kernel_rfl) (by kernel_rfl) (by kernel_rfl) (by decide) (fun _ _ _ h => h) (Or.inl ⟨by rfl, ?hy6⟩) hS1 ?_
                              case hy6 => (intro w hSw; (try dsimp only at hSw); go_simp; try with_reducible rfl)
                              simp only [Act.put, List.setIfInBounds_toArray, List.set_cons_zero, List.set_cons_succ]
                              refine Zs.pure (i := 7) (oi := ⟨some 128, _, _, _, _, _⟩) (v := .pointer (some ⟨D, 1, none⟩)) rfl (by kernel_rfl) (by kernel_rfl) (by kernel_rfl) (by decide) (fun _ _ _ h => h) (Or.inl ⟨by rfl, ?hy7⟩) hS1 ?_
                              case hy7 => (intro w hSw; (try dsimp only at hSw); go_simp; try with_reducible rfl)
                              simp only [Act.put, List.setIfInBounds_toArray, List.set_cons_zero, List.set_cons_succ]
                              refine Zs.take (i := 8) (oi := ⟨some 129, _, _, _, _, _⟩) (v := .int .i64 ka) rfl (by kernel_rfl) (by kernel_rfl) (by kernel_rfl) (by decide) (by kernel_rfl) (by kernel_rfl) (fun _ _ _ h => h) (Or.inl ⟨by rfl, ?hy8⟩) hS1 ?_
                              case hy8 => (intro w hSw; (try dsimp only at hSw); go_simp; try with_reducible rfl)
                              simp only [Act.put, List.setIfInBounds_toArray, List.set_cons_zero, List.set_cons_succ]
                              refine Zs.pure (i := 9) (oi := ⟨some 130, _, _, _, _, _⟩) (v := .pointer (some ⟨D, 2, none⟩)) rfl (by kernel_rfl) (by kernel_rfl) (by kernel_rfl) (by decide) (fun _ _ _ h => h) (Or.inl ⟨by rfl, ?hy9⟩) hS1 ?_
                              case hy9 => (intro w hSw; (try dsimp only at hSw); go_simp; try with_reducible rfl)
                              simp only [Act.put, List.setIfInBounds_toArray, List.set_cons_zero, List.set_cons_succ]
                              refine Zs.take (i := 10) (oi := ⟨some 131, _, _, _, _, _⟩) (v := .int .i64 kb) rfl (by kernel_rfl) (by kernel_rfl) (by kernel_rfl) (by decide) (by kernel_rfl) (by kernel_rfl) (fun _ _ _ h => h) (Or.inl ⟨by rfl, ?hy10⟩) hS1 ?_
                              case hy10 => (intro w hSw; (try dsimp only at hSw); go_simp; try with_reducible rfl)
                              simp only [Act.put, List.setIfInBounds_toArray, List.set_cons_zero, List.set_cons_succ]
                              refine Zs.one (i := 5) (oi := ⟨some 126, _, _, _, _, _⟩) (by kernel_rfl) rfl (fun K hK => ?_)
                              go_simp
                              refine (hE.out _ ((Below.refl _ _).drew)).mono ?_
                              rintro e V1 ⟨rfl, K6, h2⟩
                              have h2H := hidQ h2
                              clear h2
                              go_wp2_with fail
                              refine hK.out _ _ (fun _ => K6) ?_
                              clear hK K
                              try simp only [Act.put, List.setIfInBounds_toArray, List.set_cons_zero, List.set_cons_succ]
                              refine Zs.one (i := 11) (oi := ⟨some 132, _, _, _, _, _⟩) (by kernel_rfl) rfl (fun K hK => ?_)
                              go_simp
                              refine h2H.out.mono ?_
                              rintro e V2 ⟨rfl, K7, last', l', hle, hq2⟩
                              have hfin : Hid (∃ last l, last ≤ 2 + (j : Int) ∧ Pq w1 bt bm rb D (roomOf rm) last l (5, ka, kb, gg, cc) V2) := ⟨last', l', by have := hlaH.out; omega, hq2⟩
                              clear hle hq2
                              go_wp2_with fail
                              refine hK.out _ _ (fun _ => K7) ?_
                              clear hK K
                              try simp only [Act.put, List.setIfInBounds_toArray, List.set_cons_zero, List.set_cons_succ]
                              refine Zs.pure (i := 12) (oi := ⟨some 12, _, _, _, _, _⟩) (v := .int .i64 ev) rfl (by kernel_rfl) (by kernel_rfl) (by kernel_rfl) (by decide) (fun _ _ _ h => h) (Or.inl ⟨by rfl, ?hy12⟩) K7 ?_
                              case hy12 => (intro w hSw; (try dsimp only at hSw); go_simp; try with_reducible rfl)
                              simp only [Act.put, List.setIfInBounds_toArray, List.set_cons_zero, List.set_cons_succ]
                              refine Zs.one (i := 13) (oi := ⟨some 11, _, _, _, _, _⟩) (by kernel_rfl) rfl (fun K hK => ?_)
                              go_simp
                              refine hK.out _ _ (fun q => absurd q (by decide)) ?_
                              clear hK K
                              try simp only [Act.put, List.setIfInBounds_toArray, List.set_cons_zero, List.set_cons_succ]
                              refine Zs.done (by kernel_rfl) ?_ _
                              clear h2H hE K6 K7 hS1
                              go_wp2_with fail
                              go_meet
                              exact ⟨0, ev, rfl, rfl, rfl, rfl, hfin⟩
                          · have h5' : (wh == 5) = false := by simp [h5]
                            by_cases h6 : wh = 6
                            · subst h6
                              as_aux_lemma =>
                                obtain ⟨ev, hE'⟩ := exit_dual hqH.out (by have := hlaH.out; omega) hka
                                have hE := hidQ hE'
                                have hS1 := And.intro d1 d2
                                clear hqH hE'
                                go_upto_region 31 with fail
                                refine Zs.region (S := fun w' => w'.cell? ⟨D, 1, none⟩ = some (.int .i64 ka) ∧ w'.cell? ⟨D, 2, none⟩ = some (.int .i64 kb)) 13 (by kernel_rfl) ?_
                                refine Zs.pure (i := 0) (oi := ⟨some 121, _, _, _, _, _⟩) (v := .pointer (some ⟨bt, 0, none⟩)) rfl (by kernel_rfl) (by kernel_rfl) (by kernel_rfl) (by decide) (fun _ _ _ h => h) (Or.inl ⟨by rfl, ?hy0⟩) hS1 ?_
                                case hy0 => (intro w hSw; (try dsimp only at hSw); go_simp; try with_reducible rfl)
                                simp only [Act.put, List.setIfInBounds_toArray, List.set_cons_zero, List.set_cons_succ]
                                refine Zs.pure (i := 1) (oi := ⟨some 122, _, _, _, _, _⟩) (v := .pointer (some ⟨D, 1, none⟩)) rfl (by kernel_rfl) (by kernel_rfl) (by kernel_rfl) (by decide) (fun _ _ _ h => h) (Or.inl ⟨by rfl, ?hy1⟩) hS1 ?_
                                case hy1 => (intro w hSw; (try dsimp only at hSw); go_simp; try with_reducible rfl)
                                simp only [Act.put, List.setIfInBounds_toArray, List.set_cons_zero, List.set_cons_succ]
                                refine Zs.take (i := 2) (oi := ⟨some 123, _, _, _, _, _⟩) (v := .int .i64 ka) rfl (by kernel_rfl) (by kernel_rfl) (by kernel_rfl) (by decide) (by kernel_rfl) (by kernel_rfl) (fun _ _ _ h => h) (Or.inl ⟨by rfl, ?hy2⟩) hS1 ?_
                                case hy2 => (intro w hSw; (try dsimp only at hSw); go_simp; try with_reducible rfl)
                                simp only [Act.put, List.setIfInBounds_toArray, List.set_cons_zero, List.set_cons_succ]
                                refine Zs.pure (i := 3) (oi := ⟨some 124, _, _, _, _, _⟩) (v := .pointer (some ⟨D, 2, none⟩)) rfl (by kernel_rfl) (by kernel_rfl) (by kernel_rfl) (by decide) (fun _ _ _ h => h) (Or.inl ⟨by rfl, ?hy3⟩) hS1 ?_
                                case hy3 => (intro w hSw; (try dsimp only at hSw); go_simp; try with_reducible rfl)
                                simp only [Act.put, List.setIfInBounds_toArray, List.set_cons_zero, List.set_cons_succ]
                                refine Zs.take (i := 4) (oi := ⟨some 125, _, _, _, _, _⟩) (v := .int .i64 kb) rfl (by kernel_rfl) (by kernel_rfl) (by kernel_rfl) (by decide) (by kernel_rfl) (by kernel_rfl) (fun _ _ _ h => h) (Or.inl ⟨by rfl, ?hy4⟩) hS1 ?_
                                case hy4 => (intro w hSw; (try dsimp only at hSw); go_simp; try with_reducible rfl)
                                simp only [Act.put, List.setIfInBounds_toArray, List.set_cons_zero, List.set_cons_succ]
                                refine Zs.pure (i := 6) (oi := ⟨some 127, _, _, _, _, _⟩) (v := .pointer (some ⟨rb, 0, none⟩)) rfl (by kernel_rfl) (by kernel_rfl) (by kernel_rfl) (by decide) (fun _ _ _ h => h) (Or.inl ⟨by rfl, ?hy6⟩) hS1 ?_
                                case hy6 => (intro w hSw; (try dsimp only at hSw); go_simp; try with_reducible rfl)
                                simp only [Act.put, List.setIfInBounds_toArray, List.set_cons_zero, List.set_cons_succ]
                                refine Zs.pure (i := 7) (oi := ⟨some 128, _, _, _, _, _⟩) (v := .pointer (some ⟨D, 1, none⟩)) rfl (by kernel_rfl) (by kernel_rfl) (by kernel_rfl) (by decide) (fun _ _ _ h => h) (Or.inl ⟨by rfl, ?hy7⟩) hS1 ?_
                                case hy7 => (intro w hSw; (try dsimp only at hSw); go_simp; try with_reducible rfl)
                                simp only [Act.put, List.setIfInBounds_toArray, List.set_cons_zero, List.set_cons_succ]
                                refine Zs.take (i := 8) (oi := ⟨some 129, _, _, _, _, _⟩) (v := .int .i64 ka) rfl (by kernel_rfl) (by kernel_rfl) (by kernel_rfl) (by decide) (by kernel_rfl) (by kernel_rfl) (fun _ _ _ h => h) (Or.inl ⟨by rfl, ?hy8⟩) hS1 ?_
                                case hy8 => (intro w hSw; (try dsimp only at hSw); go_simp; try with_reducible rfl)
                                simp only [Act.put, List.setIfInBounds_toArray, List.set_cons_zero, List.set_cons_succ]
                                refine Zs.pure (i := 9) (oi := ⟨some 130, _, _, _, _, _⟩) (v := .pointer (some ⟨D, 2, none⟩)) rfl (by kernel_rfl) (by kernel_rfl) (by kernel_rfl) (by decide) (fun _ _ _ h => h) (Or.inl ⟨by rfl, ?hy9⟩) hS1 ?_
                                case hy9 => (intro w hSw; (try dsimp only at hSw); go_simp; try with_reducible rfl)
                                simp only [Act.put, List.setIfInBounds_toArray, List.set_cons_zero, List.set_cons_succ]
                                refine Zs.take (i := 10) (oi := ⟨some 131, _, _, _, _, _⟩) (v := .int .i64 kb) rfl (by kernel_rfl) (by kernel_rfl) (by kernel_rfl) (by decide) (by kernel_rfl) (by kernel_rfl) (fun _ _ _ h => h) (Or.inl ⟨by rfl, ?hy10⟩) hS1 ?_
                                case hy10 => (intro w hSw; (try dsimp only at hSw); go_simp; try with_reducible rfl)
                                simp only [Act.put, List.setIfInBounds_toArray, List.set_cons_zero, List.set_cons_succ]
                                refine Zs.one (i := 5) (oi := ⟨some 126, _, _, _, _, _⟩) (by kernel_rfl) rfl (fun K hK => ?_)
                                go_simp
                                refine (hE.out _ ((Below.refl _ _).drew)).mono ?_
                                rintro e V1 ⟨rfl, K6, h2⟩
                                have h2H := hidQ h2
                                clear h2
                                go_wp2_with fail
                                refine hK.out _ _ (fun _ => K6) ?_
                                clear hK K
                                try simp only [Act.put, List.setIfInBounds_toArray, List.set_cons_zero, List.set_cons_succ]
                                refine Zs.one (i := 11) (oi := ⟨some 132, _, _, _, _, _⟩) (by kernel_rfl) rfl (fun K hK => ?_)
                                go_simp
                                refine h2H.out.mono ?_
                                rintro e V2 ⟨rfl, K7, last', l', hle, hq2⟩
                                have hfin : Hid (∃ last l, last ≤ 2 + (j : Int) ∧ Pq w1 bt bm rb D (roomOf rm) last l (6, ka, kb, gg, cc) V2) := ⟨last', l', by have := hlaH.out; omega, hq2⟩
                                clear hle hq2
                                go_wp2_with fail
                                refine hK.out _ _ (fun _ => K7) ?_
                                clear hK K
                                try simp only [Act.put, List.setIfInBounds_toArray, List.set_cons_zero, List.set_cons_succ]
                                refine Zs.pure (i := 12) (oi := ⟨some 12, _, _, _, _, _⟩) (v := .int .i64 ev) rfl (by kernel_rfl) (by kernel_rfl) (by kernel_rfl) (by decide) (fun _ _ _ h => h) (Or.inl ⟨by rfl, ?hy12⟩) K7 ?_
                                case hy12 => (intro w hSw; (try dsimp only at hSw); go_simp; try with_reducible rfl)
                                simp only [Act.put, List.setIfInBounds_toArray, List.set_cons_zero, List.set_cons_succ]
                                refine Zs.one (i := 13) (oi := ⟨some 11, _, _, _, _, _⟩) (by kernel_rfl) rfl (fun K hK => ?_)
                                go_simp
                                refine hK.out _ _ (fun q => absurd q (by decide)) ?_
                                clear hK K
                                try simp only [Act.put, List.setIfInBounds_toArray, List.set_cons_zero, List.set_cons_succ]
                                refine Zs.done (by kernel_rfl) ?_ _
                                clear h2H hE K6 K7 hS1
                                go_wp2_with fail
                                go_meet
                                exact ⟨0, ev, rfl, rfl, rfl, rfl, hfin⟩
                            · have h6' : (wh == 6) = false := by simp [h6]
                              by_cases h7 : wh = 7
                              · subst h7
                                as_aux_lemma =>
                                  obtain ⟨ev, hE'⟩ := kill_dual hqH.out hka
                                  have hE := hidQ hE'
                                  have hS1 := And.intro d1 d2
                                  clear hqH hE'
                                  go_upto_region 33 with fail
                                  refine Zs.region (S := fun w' => w'.cell? ⟨D, 1, none⟩ = some (.int .i64 ka) ∧ w'.cell? ⟨D, 2, none⟩ = some (.int .i64 kb)) 13 (by kernel_rfl) ?_
                                  refine Zs.pure (i := 0) (oi := ⟨some 135, _, _, _, _, _⟩) (v := .pointer (some ⟨bt, 0, none⟩)) rfl (by kernel_rfl) (by kernel_rfl) (by kernel_rfl) (by decide) (fun _ _ _ h => h) (Or.inl ⟨by rfl, ?hy0⟩) hS1 ?_
                                  case hy0 => (intro w hSw; (try dsimp only at hSw); go_simp; try with_reducible rfl)
                                  simp only [Act.put, List.setIfInBounds_toArray, List.set_cons_zero, List.set_cons_succ]
                                  refine Zs.pure (i := 1) (oi := ⟨some 136, _, _, _, _, _⟩) (v := .pointer (some ⟨D, 1, none⟩)) rfl (by kernel_rfl) (by kernel_rfl) (by kernel_rfl) (by decide) (fun _ _ _ h => h) (Or.inl ⟨by rfl, ?hy1⟩) hS1 ?_
                                  case hy1 => (intro w hSw; (try dsimp only at hSw); go_simp; try with_reducible rfl)
                                  simp only [Act.put, List.setIfInBounds_toArray, List.set_cons_zero, List.set_cons_succ]
                                  refine Zs.take (i := 2) (oi := ⟨some 137, _, _, _, _, _⟩) (v := .int .i64 ka) rfl (by kernel_rfl) (by kernel_rfl) (by kernel_rfl) (by decide) (by kernel_rfl) (by kernel_rfl) (fun _ _ _ h => h) (Or.inl ⟨by rfl, ?hy2⟩) hS1 ?_
                                  case hy2 => (intro w hSw; (try dsimp only at hSw); go_simp; try with_reducible rfl)
                                  simp only [Act.put, List.setIfInBounds_toArray, List.set_cons_zero, List.set_cons_succ]
                                  refine Zs.pure (i := 3) (oi := ⟨some 138, _, _, _, _, _⟩) (v := .pointer (some ⟨D, 2, none⟩)) rfl (by kernel_rfl) (by kernel_rfl) (by kernel_rfl) (by decide) (fun _ _ _ h => h) (Or.inl ⟨by rfl, ?hy3⟩) hS1 ?_
                                  case hy3 => (intro w hSw; (try dsimp only at hSw); go_simp; try with_reducible rfl)
                                  simp only [Act.put, List.setIfInBounds_toArray, List.set_cons_zero, List.set_cons_succ]
                                  refine Zs.take (i := 4) (oi := ⟨some 139, _, _, _, _, _⟩) (v := .int .i64 kb) rfl (by kernel_rfl) (by kernel_rfl) (by kernel_rfl) (by decide) (by kernel_rfl) (by kernel_rfl) (fun _ _ _ h => h) (Or.inl ⟨by rfl, ?hy4⟩) hS1 ?_
                                  case hy4 => (intro w hSw; (try dsimp only at hSw); go_simp; try with_reducible rfl)
                                  simp only [Act.put, List.setIfInBounds_toArray, List.set_cons_zero, List.set_cons_succ]
                                  refine Zs.pure (i := 6) (oi := ⟨some 141, _, _, _, _, _⟩) (v := .pointer (some ⟨rb, 0, none⟩)) rfl (by kernel_rfl) (by kernel_rfl) (by kernel_rfl) (by decide) (fun _ _ _ h => h) (Or.inl ⟨by rfl, ?hy6⟩) hS1 ?_
                                  case hy6 => (intro w hSw; (try dsimp only at hSw); go_simp; try with_reducible rfl)
                                  simp only [Act.put, List.setIfInBounds_toArray, List.set_cons_zero, List.set_cons_succ]
                                  refine Zs.pure (i := 7) (oi := ⟨some 142, _, _, _, _, _⟩) (v := .pointer (some ⟨D, 1, none⟩)) rfl (by kernel_rfl) (by kernel_rfl) (by kernel_rfl) (by decide) (fun _ _ _ h => h) (Or.inl ⟨by rfl, ?hy7⟩) hS1 ?_
                                  case hy7 => (intro w hSw; (try dsimp only at hSw); go_simp; try with_reducible rfl)
                                  simp only [Act.put, List.setIfInBounds_toArray, List.set_cons_zero, List.set_cons_succ]
                                  refine Zs.take (i := 8) (oi := ⟨some 143, _, _, _, _, _⟩) (v := .int .i64 ka) rfl (by kernel_rfl) (by kernel_rfl) (by kernel_rfl) (by decide) (by kernel_rfl) (by kernel_rfl) (fun _ _ _ h => h) (Or.inl ⟨by rfl, ?hy8⟩) hS1 ?_
                                  case hy8 => (intro w hSw; (try dsimp only at hSw); go_simp; try with_reducible rfl)
                                  simp only [Act.put, List.setIfInBounds_toArray, List.set_cons_zero, List.set_cons_succ]
                                  refine Zs.pure (i := 9) (oi := ⟨some 144, _, _, _, _, _⟩) (v := .pointer (some ⟨D, 2, none⟩)) rfl (by kernel_rfl) (by kernel_rfl) (by kernel_rfl) (by decide) (fun _ _ _ h => h) (Or.inl ⟨by rfl, ?hy9⟩) hS1 ?_
                                  case hy9 => (intro w hSw; (try dsimp only at hSw); go_simp; try with_reducible rfl)
                                  simp only [Act.put, List.setIfInBounds_toArray, List.set_cons_zero, List.set_cons_succ]
                                  refine Zs.take (i := 10) (oi := ⟨some 145, _, _, _, _, _⟩) (v := .int .i64 kb) rfl (by kernel_rfl) (by kernel_rfl) (by kernel_rfl) (by decide) (by kernel_rfl) (by kernel_rfl) (fun _ _ _ h => h) (Or.inl ⟨by rfl, ?hy10⟩) hS1 ?_
                                  case hy10 => (intro w hSw; (try dsimp only at hSw); go_simp; try with_reducible rfl)
                                  simp only [Act.put, List.setIfInBounds_toArray, List.set_cons_zero, List.set_cons_succ]
                                  refine Zs.one (i := 5) (oi := ⟨some 140, _, _, _, _, _⟩) (by kernel_rfl) rfl (fun K hK => ?_)
                                  go_simp
                                  refine (hE.out _ ((Below.refl _ _).drew)).mono ?_
                                  rintro e V1 ⟨rfl, K6, h2⟩
                                  have h2H := hidQ h2
                                  clear h2
                                  go_wp2_with fail
                                  refine hK.out _ _ (fun _ => K6) ?_
                                  clear hK K
                                  try simp only [Act.put, List.setIfInBounds_toArray, List.set_cons_zero, List.set_cons_succ]
                                  refine Zs.one (i := 11) (oi := ⟨some 146, _, _, _, _, _⟩) (by kernel_rfl) rfl (fun K hK => ?_)
                                  go_simp
                                  refine h2H.out.mono ?_
                                  rintro e V2 ⟨rfl, K7, last', l', hle, hq2⟩
                                  have hfin : Hid (∃ last l, last ≤ 2 + (j : Int) ∧ Pq w1 bt bm rb D (roomOf rm) last l (7, ka, kb, gg, cc) V2) := ⟨last', l', by have := hlaH.out; omega, hq2⟩
                                  clear hle hq2
                                  go_wp2_with fail
                                  refine hK.out _ _ (fun _ => K7) ?_
                                  clear hK K
                                  try simp only [Act.put, List.setIfInBounds_toArray, List.set_cons_zero, List.set_cons_succ]
                                  refine Zs.pure (i := 12) (oi := ⟨some 12, _, _, _, _, _⟩) (v := .int .i64 ev) rfl (by kernel_rfl) (by kernel_rfl) (by kernel_rfl) (by decide) (fun _ _ _ h => h) (Or.inl ⟨by rfl, ?hy12⟩) K7 ?_
                                  case hy12 => (intro w hSw; (try dsimp only at hSw); go_simp; try with_reducible rfl)
                                  simp only [Act.put, List.setIfInBounds_toArray, List.set_cons_zero, List.set_cons_succ]
                                  refine Zs.one (i := 13) (oi := ⟨some 11, _, _, _, _, _⟩) (by kernel_rfl) rfl (fun K hK => ?_)
                                  go_simp
                                  refine hK.out _ _ (fun q => absurd q (by decide)) ?_
                                  clear hK K
                                  try simp only [Act.put, List.setIfInBounds_toArray, List.set_cons_zero, List.set_cons_succ]
                                  refine Zs.done (by kernel_rfl) ?_ _
                                  clear h2H hE K6 K7 hS1
                                  go_wp2_with fail
                                  go_meet
                                  exact ⟨0, ev, rfl, rfl, rfl, rfl, hfin⟩
                              · have h7' : (wh == 7) = false := by simp [h7]
                                as_aux_lemma =>
                                  obtain ⟨p, e1', hcall⟩ := reap_two hqH.out (by have := hlaH.out; omega) ka
                                  have hS := hidQ hcall
                                  unfold ptr prV at hS
                                  clear hcall hqH
                                  go_wp2_with fail
                                  refine hS.out.mono ?_
                                  rintro e V ⟨rfl, h2⟩
                                  obtain ⟨V1, hV1⟩ : ∃ V1, V.alloc (.cells #[.int .i64 p.pid, .int .i64 p.par, .string p.grp, .bool p.zom, .int .i64 p.st, .string p.cmd] 40) = V1 := ⟨_, rfl⟩
                                  obtain ⟨bp, hbp⟩ : ∃ bp, V.heap.size = bp := ⟨_, rfl⟩
                                  have bV : Below V.heap.size V V1 := by rw [← hV1]; exact (Below.refl _ _).alloc (Nat.le_refl _) _
                                  have sV : V1.heap.size = bp + 1 := by rw [← hV1]; simp [hbp]
                                  have cp : ∀ t u, #[Value.int .i64 p.pid, .int .i64 p.par, .string p.grp, .bool p.zom, .int .i64 p.st, .string p.cmd][t]? = some u → V1.cell? ⟨bp, t, none⟩ = some u := fun t u ht => by rw [← hV1]; exact cell_at hbp ht
                                  obtain ⟨hd, h3⟩ := h2 V1 bp bV (by omega) (by omega)
                                  obtain ⟨q0, q1, q2, q3, q4⟩ := hd
                                  have h3H := hidQ h3
                                  have cpH := hidQ cp
                                  clear h2 h3 bV sV cp hS
                                  go_wp2_with (rw [hV1])
                                  refine h3H.out.mono ?_
                                  rintro e V2 ⟨rfl, mv, last', l', hle, hq2⟩
                                  obtain ⟨V3, hV3⟩ : ∃ V3, V2.alloc (.cells #[.int .i64 p.pid, .int .i64 p.par, .string p.grp, .bool p.zom, .int .i64 p.st, .string p.cmd] 40) = V3 := ⟨_, rfl⟩
                                  obtain ⟨bq, hbq⟩ : ∃ bq, V2.heap.size = bq := ⟨_, rfl⟩
                                  have bV3 : Below V2.heap.size V2 V3 := by rw [← hV3]; exact (Below.refl _ _).alloc (Nat.le_refl _) _
                                  have cq : ∀ t u, #[Value.int .i64 p.pid, .int .i64 p.par, .string p.grp, .bool p.zom, .int .i64 p.st, .string p.cmd][t]? = some u → V3.cell? ⟨bq, t, none⟩ = some u := fun t u ht => by rw [← hV3]; exact cell_at hbq ht
                                  have cp3 : ∀ t u, #[Value.int .i64 p.pid, .int .i64 p.par, .string p.grp, .bool p.zom, .int .i64 p.st, .string p.cmd][t]? = some u → V3.cell? ⟨bp, t, none⟩ = some u := fun t u ht => by
                                    have z := mv.cell (a := ⟨bp, t, none⟩) (fun f => f (.inr rfl)) (cpH.out t u ht)
                                    exact bcellP bV3 z
                                  have a0 := cp3 0 _ rfl
                                  have a1 := cp3 1 _ rfl
                                  have a2 := cp3 2 _ rfl
                                  have a3 := cp3 3 _ rfl
                                  have a4 := cp3 4 _ rfl
                                  have a5 := cp3 5 _ rfl
                                  have b0 := cq 0 _ rfl
                                  have b1 := cq 1 _ rfl
                                  have b2 := cq 2 _ rfl
                                  have b3 := cq 3 _ rfl
                                  have b4 := cq 4 _ rfl
                                  have b5 := cq 5 _ rfl
                                  have hfin : Hid (∃ last l, last ≤ 2 + (j : Int) ∧ Pq w1 bt bm rb D (roomOf rm) last l (wh, ka, kb, gg, cc) V3) := ⟨last', l', by have := hlaH.out; omega, hq2.below bV3⟩
                                  clear h3H hq2 hle cq cp3 cpH mv bV3
                                  go_wp2_with (rw [hV3])
                                  go_meet
                                  exact ⟨0, e1', rfl, rfl, rfl, rfl, hfin⟩
              case rest =>
                obtain ⟨nn, ee, rfl, rfl, rfl, rfl, hT⟩ := hcut
                clear hqH d0 d1 d2 d3 d4 k0 k1 k2 k3 k4 hlaH
                as_aux_lemma =>
                  obtain ⟨last, l, hla, hq⟩ := hT.out
                  obtain ⟨p, tb, hgA, hgB⟩ := get_both hq ka hka
                  obtain ⟨cS, dS, hsA, hsB⟩ := sig_both hq ka hka
                  obtain ⟨ln, hlA, hlB⟩ := len_both hq
                  have hal := all_two hq (by omega)
                  have kA : Hid (∀ V, Below wc.heap.size wc V → V.cell? ⟨D, 1, none⟩ = some (.int .i64 ka)) := fun V b => (hq.below b).d.2.1
                  have hnx : Hid (∀ V, Below wc.heap.size wc V → Ph w1 bt bm rb (roomOf rm) (j + 1) V) := fun V b => ⟨last, l, (hq.below b).m.next (F := fun _ => False) (Mv.refl _ _) (fun _ f => f.elim) (fun _ f => f.elim), hq.f, by push_cast; omega⟩
                  have hgAH := hidQ hgA
                  have hgBH := hidQ hgB
                  have hsAH := hidQ hsA
                  have hsBH := hidQ hsB
                  have hlAH := hidQ hlA
                  have hlBH := hidQ hlB
                  have halH := hidQ hal
                  have t0 := hq.d.2.1
                  unfold ptr at hgAH hgBH hsAH hsBH hlAH hlBH halH
                  unfold prV at hgAH hgBH
                  clear hT hq hgA hgB hsA hsB hlA hlB hal hla
                  rename_i K1 aK1
                  refine aK1 _ _ ?_
                  clear aK1 K1
                  go_wp2_with fail
                  refine (hgAH.out _ (Below.refl _ _)).mono ?_
                  rintro e V1 ⟨rfl, b1⟩
                  obtain ⟨V2, hV2⟩ : ∃ V2, V1.alloc (.cells #[.int .i64 p.pid, .int .i64 p.par, .string p.grp, .bool p.zom, .int .i64 p.st, .string p.cmd] 40) = V2 := ⟨_, rfl⟩
                  obtain ⟨bp, hbp⟩ : ∃ bp, V1.heap.size = bp := ⟨_, rfl⟩
                  have b2' : Below V1.heap.size V1 V2 := by rw [← hV2]; exact (Below.refl _ _).alloc (Nat.le_refl _) _
                  have b2 : Below wc.heap.size wc V2 := b1.trans (b2'.mono b1.size)
                  have cp : ∀ t u, #[Value.int .i64 p.pid, .int .i64 p.par, .string p.grp, .bool p.zom, .int .i64 p.st, .string p.cmd][t]? = some u → V2.cell? ⟨bp, t, none⟩ = some u := fun t u ht => by rw [← hV2]; exact cell_at hbp ht
                  have t2 := kA.out V2 b2
                  have cpH := hidQ cp
                  have b2H := hidQ b2
                  clear hgAH b1 b2' b2 cp t0
                  go_wp2_with (rw [hV2])
                  refine (hgBH.out _ b2H.out).mono ?_
                  rintro e V3 ⟨rfl, b3⟩
                  obtain ⟨V4, hV4⟩ : ∃ V4, V3.alloc (.cells #[.int .i64 p.pid, .int .i64 p.par, .string p.grp, .bool p.zom, .int .i64 p.st, .string p.cmd] 40) = V4 := ⟨_, rfl⟩
                  obtain ⟨bq, hbq⟩ : ∃ bq, V3.heap.size = bq := ⟨_, rfl⟩
                  have b4' : Below V3.heap.size V3 V4 := by rw [← hV4]; exact (Below.refl _ _).alloc (Nat.le_refl _) _
                  have b24 : Below V2.heap.size V2 V4 := b3.trans (b4'.mono b3.size)
                  have b4 : Below wc.heap.size wc V4 := b2H.out.trans (b24.mono b2H.out.size)
                  have cq : ∀ t u, #[Value.int .i64 p.pid, .int .i64 p.par, .string p.grp, .bool p.zom, .int .i64 p.st, .string p.cmd][t]? = some u → V4.cell? ⟨bq, t, none⟩ = some u := fun t u ht => by rw [← hV4]; exact cell_at hbq ht
                  have cp4 : Hid (∀ t u, #[Value.int .i64 p.pid, .int .i64 p.par, .string p.grp, .bool p.zom, .int .i64 p.st, .string p.cmd][t]? = some u → V4.cell? ⟨bp, t, none⟩ = some u ∧ V4.cell? ⟨bq, t, none⟩ = some u) := fun t u ht => ⟨bcellP b24 (cpH.out t u ht), cq t u ht⟩
                  have t4 := kA.out V4 b4
                  have b4H := hidQ b4
                  clear hgBH b3 b4' b4 b24 cq cpH b2H t2
                  go_wp2_with (rw [hV4])
                  refine (hsAH.out _ b4H.out).mono ?_
                  rintro e V5 ⟨rfl, b5⟩
                  have b5H := hidQ b5
                  have w5H := hidQ (b4H.out.trans (b5.mono b4H.out.size))
                  have t5 := kA.out V5 w5H.out
                  clear hsAH b5 t4
                  go_wp2_with fail
                  refine (hsBH.out _ w5H.out).mono ?_
                  rintro e V6 ⟨rfl, b6⟩
                  have b6H := hidQ (b5H.out.trans (b6.mono b5H.out.size))
                  have w6H := hidQ (w5H.out.trans (b6.mono w5H.out.size))
                  have a0 := (cp4.out 0 _ rfl).1
                  have a1 := (cp4.out 1 _ rfl).1
                  have a2 := (cp4.out 2 _ rfl).1
                  have a3 := (cp4.out 3 _ rfl).1
                  have a4 := (cp4.out 4 _ rfl).1
                  have a5 := (cp4.out 5 _ rfl).1
                  have q0 := (cp4.out 0 _ rfl).2
                  have q1 := (cp4.out 1 _ rfl).2
                  have q2 := (cp4.out 2 _ rfl).2
                  have q3 := (cp4.out 3 _ rfl).2
                  have q4 := (cp4.out 4 _ rfl).2
                  have q5 := (cp4.out 5 _ rfl).2
                  replace a0 := bcellP b6H.out a0
                  replace a1 := bcellP b6H.out a1
                  replace a2 := bcellP b6H.out a2
                  replace a3 := bcellP b6H.out a3
                  replace a4 := bcellP b6H.out a4
                  replace a5 := bcellP b6H.out a5
                  replace q0 := bcellP b6H.out q0
                  replace q1 := bcellP b6H.out q1
                  replace q2 := bcellP b6H.out q2
                  replace q3 := bcellP b6H.out q3
                  replace q4 := bcellP b6H.out q4
                  replace q5 := bcellP b6H.out q5
                  clear hsBH b6 t5 b5H w5H b6H b4H cp4
                  go_wp2_with fail
                  refine (hlAH.out _ w6H.out).mono ?_
                  rintro e V7 ⟨rfl, b7⟩
                  have w7H := hidQ (w6H.out.trans (b7.mono w6H.out.size))
                  clear hlAH b7 a0 a1 a2 a3 a4 a5 q0 q1 q2 q3 q4 q5 w6H
                  go_wp2_with fail
                  refine (hlBH.out _ w7H.out).mono ?_
                  rintro e V8 ⟨rfl, b8⟩
                  have w8H := hidQ (w7H.out.trans (b8.mono w7H.out.size))
                  have ha8 := hidQ (halH.out _ w8H.out)
                  clear hlBH b8 w7H halH
                  go_wp2_with fail
                  refine ha8.out.mono ?_
                  rintro e V9 ⟨p1, n1, c1', rfl, b9, h9⟩
                  have w9H := hidQ (w8H.out.trans (b9.mono w8H.out.size))
                  have h9H := hidQ h9
                  clear ha8 b9 w8H h9
                  go_wp2_with fail
                  refine h9H.out.mono ?_
                  rintro e V10 ⟨p2, n2, c2', rfl, b10, h10⟩
                  have w10H := hidQ (w9H.out.trans (b10.mono w9H.out.size))
                  have h10H := hidQ h10
                  clear h9H b10 w9H h10
                  go_wp2_with fail
                  refine h10H.out.mono ?_
                  rintro e V11 ⟨rfl, b11⟩
                  have fin := hidQ (hnx.out _ (w10H.out.trans (b11.mono w10H.out.size)))
                  clear h10H b11 w10H hnx kA
                  go_wp2_with fail
                  exact ⟨⟨j + 1, by omega, by go_num, fin⟩, by simp [intOf]; omega⟩
          · have hgI : ¬ (100 : Int) < (gg.size : Int) := by omega
            have hgD : decide ((100 : Int) < (gg.size : Int)) = false := decide_eq_false hgI
            have hcI : (100 : Int) < (cc.size : Int) := by omega
            clear hqH
            go_wp2_with (rw [hA])
            go_ret
            exact ⟨rfl, finA.out⟩
        · have hgI : (100 : Int) < (gg.size : Int) := by omega
          clear hqH
          go_wp2_with (rw [hA])
          go_ret
          exact ⟨rfl, finA.out⟩
      · obtain rfl : j = n := by omega
        have hjI : ¬ (j : Int) < (j : Int) := by omega
        have hall : Hid (Calls Try.prog 24 #[ptr bt, .int .i64 1] wr fun e V => ∃ p c, e = .returned (.slice p 1 c) ∧ Below w.heap.size w V) := by
          refine (all_1 bt wr).mono ?_
          rintro e V ⟨v, rfl, o1, b1⟩
          obtain ⟨p, c, rfl, _⟩ := PRow.shape (W := V) (L := [one]) ⟨_, o1⟩
          exact ⟨p, c, rfl, bw.trans (b1.mono bw.size)⟩
        clear hst hM hW bw hla
        go_wp2_with fail
        refine hall.out.mono ?_
        rintro e V ⟨p, c, rfl, b1⟩
        have fin := hidQ b1
        clear hall b1
        go_wp2_with fail
        go_ret
        exact ⟨rfl, fin.out⟩
  · have e1 : (120 : Int) < (n : Int) := by omega
    go_enter Try.func3, Try.ntmps3
    go_wp2_with fail
    refine hK.out.mono ?_
    rintro e w1 ⟨rfl, bw1⟩
    have fin := hidQ bw1
    clear bw1 hK
    go_wp2_with fail
    go_ret
    exact ⟨rfl, fin.out⟩
end Go.Proofs.Ytcikjnifkoagpaa
