/- Contracts of package civil's Month and of the function that it gives, over CivilMonths's own function. -/
import Derived.Test.YtgogbbhbkckfgaaDoorMO1
namespace Go.Proofs.YtgogbbhbkckfgaaDoor
open Go.RowKit
set_option maxHeartbeats 400000 in
theorem month_any (y m : Int) (w : World) :
    Calls Tryd.prog 23 #[.int .i64 y, .int .i64 m] w fun e w' => e = .returned (.func (.func 38) #[] #[.pointer (some ⟨w.heap.size, 0, none⟩), .pointer (some ⟨w.heap.size + 1, 0, none⟩)]) ∧ w' = (w.alloc (.cells #[.int .i64 y] 3)).alloc (.cells #[.int .i64 m] 3) := by
  go_enter Tryd.func23, Tryd.ntmps23
  go_wp2
  go_ret
  exact ⟨rfl, rfl⟩
theorem hide3 {p : Prop} (h : p) : Hid p := h
/-- How many dates come. -/
def came (y m stop : Int) : Nat := if Civ.monB y m = true then (if 1 ≤ stop ∧ stop ≤ Civ.dim y m then stop.toNat else (Civ.dim y m).toNat) else 0
set_option maxRecDepth 100000 in
set_option maxHeartbeats 2000000 in
theorem month1_any (w : World) (n bl bs bx bm : Nat) (y m stop : Int) (W : World) (st : MoSt w n bl bx bm y m 0 W) (hn : n ≤ w.heap.size) (hbs : bs < n) (hcs : w.cell? ⟨bs, 0, none⟩ = some (.int .i64 stop)) (hbl : n ≤ bl) (hne1 : bx ≠ bl) (hne2 : bm ≠ bl) (hT : LenIn w) :
    Calls Tryd.prog 38 #[.func (.func 24) #[] #[.pointer (some ⟨bl, 0, none⟩), .pointer (some ⟨bs, 0, none⟩)], .pointer (some ⟨bx, 0, none⟩), .pointer (some ⟨bm, 0, none⟩)] W fun e W' => (∃ v, e = .returned v) ∧ MoSt w n bl bx bm y m (came y m stop) W' := by
  have hn0 : 0 < n := by omega
  cases hm : Civ.monB y m
  · have hc : Hid (came y m stop = 0) := by show _ = _; unfold came; rw [if_neg (by simp [hm])]
    have h1 := st.cy.cell
    have h2 := st.cm.cell
    go_enter Tryd.func38, Tryd.ntmps38
    go_wp2_with fail
    refine (isMonth_any y m _).mono ?_
    rintro e w1 ⟨rfl, rfl⟩
    go_wp2_with fail
    refine bodyPost_ret (results_none rfl _ _ _) rfl ?_
    exact ⟨⟨_, rfl⟩, by rw [hc.out]; exact st⟩
  · obtain ⟨y0, y1, m0, m1⟩ := Civ.monB_iff.1 hm
    have dm := Civ.dim_bd y m
    have h1 := st.cy.cell
    have h2 := st.cm.cell
    go_enter Tryd.func38, Tryd.ntmps38
    go_wp2_with fail
    refine (isMonth_any y m _).mono ?_
    rintro e w1 ⟨rfl, rfl⟩
    go_wp2_with fail
    clear h1 h2
    go_loopw [4] (fun i wr => ∃ k : Nat, i = .int .i64 ((k : Int) + 1) ∧ (k : Int) ≤ Civ.dim y m ∧ ¬ (1 ≤ stop ∧ stop ≤ k) ∧ MoSt w n bl bx bm y m k wr) (fun i _ => 40 - (intOf i).toNat)
    case atStart => exact ⟨0, rfl, by omega, by omega, st⟩
    case round =>
      obtain ⟨k, rfl, hk, hs, hst⟩ := hrel
      have h1 := hst.cy.cell
      have h2 := hst.cm.cell
      have hTk : LenIn wr := hT.below hn0 hst.bel
      by_cases hlt : (k : Int) + 1 ≤ Civ.dim y m
      · go_wp2_with fail
        refine (length_any y m _ hTk (by omega) (by omega) m0 m1).mono ?_
        rintro e w1 ⟨rfl, rfl⟩
        have hyc := yieldM w n bl bs bx bm y m stop k _ hst hn hbs hcs hbl hne1 hne2 (by omega)
        by_cases hst' : (k : Int) + 1 = stop
        · rw [show (!decide ((k : Int) + 1 = stop)) = false by simp [hst']] at hyc
          have hc : Hid (came y m stop = k + 1) := by
            show _ = _
            unfold came
            rw [if_pos hm, if_pos (by omega)]
            omega
          clear hst'
          go_wp2_with fail
          refine hyc.mono ?_
          rintro e W3 ⟨rfl, st3⟩
          clear hyc
          go_wp2_with fail
          refine bodyPost_ret (results_none rfl _ _ _) rfl ?_
          exact ⟨⟨_, rfl⟩, by rw [hc.out]; exact st3⟩
        · rw [show (!decide ((k : Int) + 1 = stop)) = true by simp [hst']] at hyc
          have hs' := hide3 hst'
          clear hst'
          go_wp2_with fail
          refine hyc.mono ?_
          rintro e W3 ⟨rfl, st3⟩
          clear hyc
          go_wp2_with fail
          have := hs'.out
          exact ⟨⟨k + 1, by go_num, by omega, by omega, st3⟩, by simp [intOf]; omega⟩
      · go_wp2_with fail
        refine (length_any y m _ hTk (by omega) (by omega) m0 m1).mono ?_
        rintro e w1 ⟨rfl, rfl⟩
        have hc : Hid (came y m stop = k) := by
          show _ = _
          unfold came
          rw [if_pos hm, if_neg (by omega)]
          omega
        go_wp2_with fail
        go_end0
        exact ⟨⟨_, rfl⟩, by rw [hc.out]; exact hst⟩
end Go.Proofs.YtgogbbhbkckfgaaDoor
