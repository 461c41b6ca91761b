/- The reference's Reap. -/
import Derived.Test.YtcikjnifkoagpaaRQ10
import Derived.Test.YtcikjnifkoagpaaRQ11
import Derived.Test.YtcikjnifkoagpaaRQ3
import Derived.Deep.RegionLaw
namespace Go.Proofs.Ytcikjnifkoagpaa
open Go.RowKit Go.Shelf Go.Lib
set_option maxRecDepth 100000 in
set_option maxHeartbeats 4000000 in
theorem rreap_any {b g cap : Nat} {room last : Int} {l : Ps} (k : Int) (w : World) (h : RO w b g cap room last l) (hz0 : ∀ p, l[0]? = some p → p.zom = false) :
    Calls Try.prog 16 #[.pointer (some ⟨b, 0, none⟩), .int .i64 k] w fun e w' => e = .returned (.tuple #[prV ((rpP l k).getD zPr), .int .i64 (rpE l k)]) ∧ ∃ l' g' cap', (rpP l k = none ∧ l' = l ∨ ∃ a p c, rpP l k = some p ∧ l = a ++ p :: c ∧ (∀ x ∈ a, rpB k x = false) ∧ l' = a ++ c) ∧ Rg b g w g' cap' room last l' w' := by
  obtain ⟨n, hn⟩ : ∃ n, l.length = n := ⟨_, rfl⟩
  have hlen := h.len
  rw [hn] at hlen
  have hN := hidP hn
  have hH := hidP h
  have hzH := hidP hz0
  obtain ⟨W0, hW0⟩ : ∃ W0, w.alloc (.cells #[.int .i64 0, .int .i64 0, .string ⟨#[]⟩, .bool false, .int .i64 0, .string ⟨#[]⟩] 40) = W0 := ⟨_, rfl⟩
  have st0 : Hid ((∀ x ∈ l.take 0, rpB k x = false) ∧ Mv (fun _ => False) w W0 ∧ W0.heap[w.heap.size]? = some (.cells #[.int .i64 0, .int .i64 0, .string ⟨#[]⟩, .bool false, .int .i64 0, .string ⟨#[]⟩] 40)) := ⟨by intro x hx; simp at hx, by rw [← hW0]; exact Mv.alloc _ _ _, by rw [← hW0]; exact World.alloc_heap_new _ _⟩
  clear h hn hz0
  go_enter Try.func16, Try.ntmps16
  go_wp2_with fail
  go_loopw [6] (fun v6 wr => ∃ i : Nat, i ≤ n ∧ v6 = .int .i64 i ∧ Hid ((∀ x ∈ l.take i, rpB k x = false) ∧ Mv (fun _ => False) w wr ∧ wr.heap[w.heap.size]? = some (.cells #[.int .i64 0, .int .i64 0, .string ⟨#[]⟩, .bool false, .int .i64 0, .string ⟨#[]⟩] 40))) (fun v6 _ => n - (intOf v6).toNat)
  case atStart => exact ⟨0, by omega, rfl, st0⟩
  case round =>
    clear st0
    obtain ⟨i, hi, rfl, hI⟩ := hrel
    have hR : RO wr b g cap room last l := hH.out.mv hI.out.2.1 (fun h => h) (fun h => h)
    have c0 := hR.c0
    rw [hN.out] at c0
    by_cases hlt : i < n
    · have hltI : (i : Int) < (n : Int) := by omega
      obtain ⟨p, hp⟩ : ∃ p, l[i]? = some p := ⟨_, List.getElem?_eq_getElem (by rw [hN.out]; exact hlt)⟩
      have q0 := hR.at hp (q := 0) rfl
      have q1 := hR.at hp (q := 1) rfl
      have q2 := hR.at hp (q := 2) rfl
      have q3 := hR.at hp (q := 3) rfl
      have q4 := hR.at hp (q := 4) rfl
      have q5 := hR.at hp (q := 5) rfl
      simp only [Nat.add_zero] at q0
      have hpH := hidP hp
      have hRH := hidP hR
      clear hR hp
      obtain ⟨z0, z1, z2, z3, z4, z5, z6, z7⟩ := p
      simp only at q0 q1 q2 q3 q4 q5
      cases z3 with
      | false =>
        have nx : Hid ((∀ x ∈ l.take (i + 1), rpB k x = false) ∧ Mv (fun _ => False) w (wr.alloc (.cells #[.int .i64 z0, .int .i64 z1, .string z2, .bool false, .int .i64 z4, .string z5] 40)) ∧ (wr.alloc (.cells #[.int .i64 z0, .int .i64 z1, .string z2, .bool false, .int .i64 z4, .string z5] 40)).heap[w.heap.size]? = some (.cells #[.int .i64 0, .int .i64 0, .string ⟨#[]⟩, .bool false, .int .i64 0, .string ⟨#[]⟩] 40)) := by
          refine ⟨fun x hx => ?_, hI.out.2.1.trans' (Mv.alloc _ _ _), (Below.heap_alloc _ _ _ (lt_of_heap hI.out.2.2)).trans hI.out.2.2⟩
          rw [take_snoc hpH.out] at hx
          rcases List.mem_append.1 hx with q | q
          · exact hI.out.1 x q
          · rw [List.mem_singleton.1 q]; unfold rpB; simp
        clear hI hRH hpH
        go_wp2_with fail
        exact ⟨⟨i + 1, by omega, by go_num, nx⟩, by simp [intOf]; omega⟩
      | true =>
        by_cases hz : ¬ z1 = k
        · have nx : Hid ((∀ x ∈ l.take (i + 1), rpB k x = false) ∧ Mv (fun _ => False) w (wr.alloc (.cells #[.int .i64 z0, .int .i64 z1, .string z2, .bool true, .int .i64 z4, .string z5] 40)) ∧ (wr.alloc (.cells #[.int .i64 z0, .int .i64 z1, .string z2, .bool true, .int .i64 z4, .string z5] 40)).heap[w.heap.size]? = some (.cells #[.int .i64 0, .int .i64 0, .string ⟨#[]⟩, .bool false, .int .i64 0, .string ⟨#[]⟩] 40)) := by
            refine ⟨fun x hx => ?_, hI.out.2.1.trans' (Mv.alloc _ _ _), (Below.heap_alloc _ _ _ (lt_of_heap hI.out.2.2)).trans hI.out.2.2⟩
            rw [take_snoc hpH.out] at hx
            rcases List.mem_append.1 hx with q | q
            · exact hI.out.1 x q
            · rw [List.mem_singleton.1 q]; unfold rpB; simp; exact hz
          clear hI hRH hpH
          go_wp2_with fail
          exact ⟨⟨i + 1, by omega, by go_num, nx⟩, by simp [intOf]; omega⟩
        · have hz' : z1 = k := Classical.not_not.1 hz
          subst hz'
          clear hz
          have hi1 : 1 ≤ i := by
            rcases Nat.eq_zero_or_pos i with e | e
            · have := hpH.out
              rw [e] at this
              exact absurd (hzH.out _ this) (by simp)
            · exact e
          obtain ⟨a, c, hl, hla, hlc, hta⟩ : ∃ a c, l = a ++ ⟨z0, z1, z2, true, z4, z5, z6, z7⟩ :: c ∧ a.length = i ∧ c.length = n - (i + 1) ∧ a = l.take i := by
            have hil : i < l.length := by rw [hN.out]; exact hlt
            refine ⟨l.take i, l.drop (i + 1), ?_, by rw [List.length_take]; omega, by rw [List.length_drop, hN.out], rfl⟩
            rw [← (List.getElem?_eq_some_iff.1 hpH.out).2, List.getElem_cons_drop, List.take_append_drop]
          have hfd : Hid (rpP l z1 = some ⟨z0, z1, z2, true, z4, z5, z6, z7⟩ ∧ l = a ++ ⟨z0, z1, z2, true, z4, z5, z6, z7⟩ :: c ∧ ∀ x ∈ a, rpB z1 x = false) := by
            have hn' : ∀ x ∈ a, rpB z1 x = false := fun x hx => hI.out.1 x (by rw [← hta]; exact hx)
            refine ⟨?_, hl, hn'⟩
            unfold rpP
            exact List.find?_eq_some_iff_append.2 ⟨by unfold rpB; simp, a, c, hl, fun x hx => by simp [hn' x hx]⟩
          obtain ⟨W1, hW1⟩ : ∃ W1, wr.alloc (.cells #[.int .i64 z0, .int .i64 z1, .string z2, .bool true, .int .i64 z4, .string z5] 40) = W1 := ⟨_, rfl⟩
          have m1 : Mv (fun _ => False) wr W1 := by rw [← hW1]; exact Mv.alloc _ _ _
          have hR1 : RO W1.drew b g cap room last (a ++ ⟨z0, z1, z2, true, z4, z5, z6, z7⟩ :: c) := by
            rw [← hl]
            exact hRH.out.mv (m1.trans' (Mv.drew _ _)) (fun h => h) (fun h => h)
          have bx : Hid (W1.heap[wr.heap.size]? = some (.cells #[.int .i64 z0, .int .i64 z1, .string z2, .bool true, .int .i64 z4, .string z5] 40)) := by rw [← hW1]; exact World.alloc_heap_new _ _
          have rs : Hid (W1.heap[w.heap.size]? = some (.cells #[.int .i64 0, .int .i64 0, .string ⟨#[]⟩, .bool false, .int .i64 0, .string ⟨#[]⟩] 40)) := (m1.block _ (lt_of_heap hI.out.2.2) (fun h => h)).trans hI.out.2.2
          have x1 := cells_of bx.out (j := 1) rfl
          have x3 := cells_of bx.out (j := 3) rfl
          have hncap : n ≤ cap ∧ cap ≤ maxLen := by
            have hrow := hRH.out.ow
            rw [hN.out] at hrow
            rcases hrow.2 with ⟨e, _⟩ | ⟨g3, cap3, cur, e, _, _, h5, h6, _⟩
            · cases e
            · injection e with _ _ e3
              rw [e3]; exact ⟨h5, h6⟩
          have hcapm : (cap : Int) ≤ 9223372036854775807 := by have := hncap.2; unfold maxLen at this; omega
          have hbw := hH.out.ltb
          have hgw := hH.out.ltg
          have sz1 : Hid (w.heap.size < wr.heap.size) := lt_of_heap hI.out.2.2
          have mw1 : Hid (Mv (fun _ => False) w W1) := hI.out.2.1.trans' m1
          obtain ⟨p2, cc2, W2, hrun2, mv2, hnx⟩ := hR1.cut (by omega)
          rw [hla] at hrun2 hnx
          rw [hlc] at hnx
          have c01 : W1.drew.cell? ⟨b, 0, none⟩ = some (.slice (some ⟨g, 0, none⟩) n cap) := ((m1.trans' (Mv.drew _ _)).cell (a := ⟨b, 0, none⟩) (fun h => h) c0)
          have c02 := mv2.cell (a := ⟨b, 0, none⟩) (fun h => h) c01
          have hnxH := hidP hnx
          have fz1 := hidP hR1.fz
          clear hnx hR1 m1 hI hl hla hlc hta mv2 hpH hRH hN hzH
          obtain ⟨q1, hq1⟩ : ∃ q1, i + 1 = q1 := ⟨_, rfl⟩
          rw [hq1] at hnxH
          have hwq : IntKind.i64.wrap ((i : Int) + 1) = (q1 : Int) := by rw [IntKind.wrap_i64]; omega
          have l1 : (q1 : Int) ≤ (n : Int) := by omega
          have l0 : (0 : Int) ≤ (q1 : Int) := by omega
          have hic : i ≤ cap := by omega
          have hin : (i : Int) ≤ (cap : Int) := by omega
          have hqn : q1 ≤ n := by omega
          have hqcap : q1 ≤ cap := by omega
          rcases Nat.lt_or_ge q1 cap with hqc | hqc
          · have hne : ¬ cap = q1 := by omega
            obtain ⟨g3, cc3, W3, hrun3, mv3, hG⟩ := hnxH.out (some ⟨g, q1 * 8, none⟩) (cap - q1) (.inr rfl)
            have c03 := mv3.cell (a := ⟨b, 0, none⟩) (fun h => h) c01
            have f03 := (mv3.froz (a := ⟨b, 0, none⟩) (fun h => h) (cell_lt c01)).trans (fz1.out 0)
            obtain ⟨W4, hW4⟩ : ∃ W4, W3.setCell ⟨b, 0, none⟩ (.slice (some ⟨g3, 0, none⟩) (i + (n - q1)) cc3) = W4 := ⟨_, rfl⟩
            rw [hW4] at hG
            have mv4 := hG.mv
            have szW : W1.drew.heap.size = W1.heap.size := rfl
            have B4 : W4.heap[wr.heap.size]? = some (.cells #[.int .i64 z0, .int .i64 z1, .string z2, .bool true, .int .i64 z4, .string z5] 40) := (mv4.block _ (by rw [szW]; exact lt_of_heap bx.out) (by have := sz1.out; omega)).trans bx.out
            have R4 : W4.heap[w.heap.size]? = some (.cells #[.int .i64 0, .int .i64 0, .string ⟨#[]⟩, .bool false, .int .i64 0, .string ⟨#[]⟩] 40) := (mv4.block _ (by rw [szW]; exact lt_of_heap rs.out) (by omega)).trans rs.out
            obtain ⟨V, hV⟩ : ∃ V, (((((W4.setCell ⟨w.heap.size, 0, none⟩ (.int .i64 z0)).setCell ⟨w.heap.size, 1, none⟩ (.int .i64 z1)).setCell ⟨w.heap.size, 2, none⟩ (.string z2)).setCell ⟨w.heap.size, 3, none⟩ (.bool true)).setCell ⟨w.heap.size, 4, none⟩ (.int .i64 z4)).setCell ⟨w.heap.size, 5, none⟩ (.string z5) = V := ⟨_, rfl⟩
            have y0 := cells_of R4 (j := 0) rfl
            have y1 := cells_of R4 (j := 1) rfl
            have y2 := cells_of R4 (j := 2) rfl
            have y3 := cells_of R4 (j := 3) rfl
            have y4 := cells_of R4 (j := 4) rfl
            have y5 := cells_of R4 (j := 5) rfl
            have f0 := froz_of R4 (j := 0)
            have f1 := froz_of R4 (j := 1)
            have f2 := froz_of R4 (j := 2)
            have f3 := froz_of R4 (j := 3)
            have f4 := froz_of R4 (j := 4)
            have f5 := froz_of R4 (j := 5)
            have b0 := cells_of B4 (j := 0) rfl
            have b1 := cells_of B4 (j := 1) rfl
            have b2 := cells_of B4 (j := 2) rfl
            have b3 := cells_of B4 (j := 3) rfl
            have b4 := cells_of B4 (j := 4) rfl
            have b5 := cells_of B4 (j := 5) rfl
            obtain ⟨mV, d0, d1, d2, d3, d4, d5⟩ := six_set (fun j hj => by
              match j, hj with
              | 0, _ => rw [y0]; rfl
              | 1, _ => rw [y1]; rfl
              | 2, _ => rw [y2]; rfl
              | 3, _ => rw [y3]; rfl
              | 4, _ => rw [y4]; rfl
              | 5, _ => rw [y5]; rfl) hV
            have mw1d : Mv (fun _ => False) w W1.drew := mw1.out.trans' (Mv.drew _ _)
            have hs1 := mw1d.size
            have hs2 := lt_of_heap rs.out
            have fin : Hid (Rg b g w g3 cc3 room last (a ++ c) V) := ⟨hG.r.mv mV (by omega) (by have := hG.gr; omega), ((mw1d.mono (fun k _ e => absurd e id)).trans' mv4).trans (E' := fun k => k = w.heap.size) (fun j hj => .inr (by omega)) mV, by have := hG.gr; omega⟩
            have dd := hidP (And.intro d0 (And.intro d1 (And.intro d2 (And.intro d3 (And.intro d4 d5)))))
            clear hG hnxH mv3 mv4 B4 R4 mV hs1 hs2 mw1d szW d0 d1 d2 d3 d4 d5
            go_wp2_with (rw [hW1])
            go_region_law (first | (refine step_append_run (by rfl) _ _ 60 (by rfl) (.slice none 0 0) (.slice (some ⟨g, 0, none⟩) i cap) _ _ (by rfl) (by rfl) hrun2 ?_) | (refine step_append_run (by rfl) _ _ 60 (by rfl) _ _ _ _ (by rfl) (by rfl) hrun3 ?_))
            all_goals
              go_wp2_with (rw [hV])
              obtain ⟨d0, d1, d2, d3, d4, d5⟩ := dd.out
              have rE : rpE l z1 = 0 := by unfold rpE; rw [hfd.out.1]
              exact bodyPost_ret (v := .tuple #[prV ⟨z0, z1, z2, true, z4, z5, z6, z7⟩, .int .i64 0]) (by simp [results, Try.results16, go_sem, prV, d0, d1, d2, d3, d4, d5]) rfl ⟨by rw [rE, hfd.out.1]; rfl, a ++ c, g3, cc3, .inr ⟨a, _, c, hfd.out.1, hfd.out.2.1, hfd.out.2.2, rfl⟩, fin.out⟩
          · have hce : cap = q1 := by omega
            have hnq : n = q1 := by omega
            subst hce
            subst hnq
            obtain ⟨g3, cc3, W3, hrun3, mv3, hG⟩ := hnxH.out (some ⟨g, 0, none⟩) 0 (.inl (by omega))
            simp only [Nat.sub_self, Nat.add_zero] at hrun3 hG
            have c03 := mv3.cell (a := ⟨b, 0, none⟩) (fun h => h) c01
            have f03 := (mv3.froz (a := ⟨b, 0, none⟩) (fun h => h) (cell_lt c01)).trans (fz1.out 0)
            obtain ⟨W4, hW4⟩ : ∃ W4, W3.setCell ⟨b, 0, none⟩ (.slice (some ⟨g3, 0, none⟩) i cc3) = W4 := ⟨_, rfl⟩
            rw [hW4] at hG
            have mv4 := hG.mv
            have szW : W1.drew.heap.size = W1.heap.size := rfl
            have B4 : W4.heap[wr.heap.size]? = some (.cells #[.int .i64 z0, .int .i64 z1, .string z2, .bool true, .int .i64 z4, .string z5] 40) := (mv4.block _ (by rw [szW]; exact lt_of_heap bx.out) (by have := sz1.out; omega)).trans bx.out
            have R4 : W4.heap[w.heap.size]? = some (.cells #[.int .i64 0, .int .i64 0, .string ⟨#[]⟩, .bool false, .int .i64 0, .string ⟨#[]⟩] 40) := (mv4.block _ (by rw [szW]; exact lt_of_heap rs.out) (by omega)).trans rs.out
            obtain ⟨V, hV⟩ : ∃ V, (((((W4.setCell ⟨w.heap.size, 0, none⟩ (.int .i64 z0)).setCell ⟨w.heap.size, 1, none⟩ (.int .i64 z1)).setCell ⟨w.heap.size, 2, none⟩ (.string z2)).setCell ⟨w.heap.size, 3, none⟩ (.bool true)).setCell ⟨w.heap.size, 4, none⟩ (.int .i64 z4)).setCell ⟨w.heap.size, 5, none⟩ (.string z5) = V := ⟨_, rfl⟩
            have y0 := cells_of R4 (j := 0) rfl
            have y1 := cells_of R4 (j := 1) rfl
            have y2 := cells_of R4 (j := 2) rfl
            have y3 := cells_of R4 (j := 3) rfl
            have y4 := cells_of R4 (j := 4) rfl
            have y5 := cells_of R4 (j := 5) rfl
            have f0 := froz_of R4 (j := 0)
            have f1 := froz_of R4 (j := 1)
            have f2 := froz_of R4 (j := 2)
            have f3 := froz_of R4 (j := 3)
            have f4 := froz_of R4 (j := 4)
            have f5 := froz_of R4 (j := 5)
            have b0 := cells_of B4 (j := 0) rfl
            have b1 := cells_of B4 (j := 1) rfl
            have b2 := cells_of B4 (j := 2) rfl
            have b3 := cells_of B4 (j := 3) rfl
            have b4 := cells_of B4 (j := 4) rfl
            have b5 := cells_of B4 (j := 5) rfl
            obtain ⟨mV, d0, d1, d2, d3, d4, d5⟩ := six_set (fun j hj => by
              match j, hj with
              | 0, _ => rw [y0]; rfl
              | 1, _ => rw [y1]; rfl
              | 2, _ => rw [y2]; rfl
              | 3, _ => rw [y3]; rfl
              | 4, _ => rw [y4]; rfl
              | 5, _ => rw [y5]; rfl) hV
            have mw1d : Mv (fun _ => False) w W1.drew := mw1.out.trans' (Mv.drew _ _)
            have hs1 := mw1d.size
            have hs2 := lt_of_heap rs.out
            have fin : Hid (Rg b g w g3 cc3 room last (a ++ c) V) := ⟨hG.r.mv mV (by omega) (by have := hG.gr; omega), ((mw1d.mono (fun k _ e => absurd e id)).trans' mv4).trans (E' := fun k => k = w.heap.size) (fun j hj => .inr (by omega)) mV, by have := hG.gr; omega⟩
            have dd := hidP (And.intro d0 (And.intro d1 (And.intro d2 (And.intro d3 (And.intro d4 d5)))))
            clear hG hnxH mv3 mv4 B4 R4 mV hs1 hs2 mw1d szW d0 d1 d2 d3 d4 d5
            go_wp2_with (rw [hW1])
            go_region_law (first | (refine step_append_run (by rfl) _ _ 60 (by rfl) (.slice none 0 0) (.slice (some ⟨g, 0, none⟩) i n) _ _ (by rfl) (by rfl) hrun2 ?_) | (refine step_append_run (by rfl) _ _ 60 (by rfl) (.slice p2 i cc2) (.slice (some ⟨g, 0, none⟩) 0 0) _ _ (by rfl) (by rfl) hrun3 ?_))
            all_goals
              go_wp2_with (rw [hV])
              obtain ⟨d0, d1, d2, d3, d4, d5⟩ := dd.out
              have rE : rpE l z1 = 0 := by unfold rpE; rw [hfd.out.1]
              exact bodyPost_ret (v := .tuple #[prV ⟨z0, z1, z2, true, z4, z5, z6, z7⟩, .int .i64 0]) (by simp [results, Try.results16, go_sem, prV, d0, d1, d2, d3, d4, d5]) rfl ⟨by rw [rE, hfd.out.1]; rfl, a ++ c, g3, cc3, .inr ⟨a, _, c, hfd.out.1, hfd.out.2.1, hfd.out.2.2, rfl⟩, fin.out⟩
    · have hltI : decide ((i : Int) < (n : Int)) = false := by simp; omega
      have hin : i = n := by omega
      have hh := hI.out.2.2
      have y0 := cells_of hh (j := 0) rfl
      have y1 := cells_of hh (j := 1) rfl
      have y2 := cells_of hh (j := 2) rfl
      have y3 := cells_of hh (j := 3) rfl
      have y4 := cells_of hh (j := 4) rfl
      have y5 := cells_of hh (j := 5) rfl
      have f0 := froz_of hh (j := 0)
      have f1 := froz_of hh (j := 1)
      have f2 := froz_of hh (j := 2)
      have f3 := froz_of hh (j := 3)
      have f4 := froz_of hh (j := 4)
      have f5 := froz_of hh (j := 5)
      have hnone : rpP l k = none := by
        unfold rpP
        refine List.find?_eq_none.2 (fun q hq => ?_)
        have := hI.out.1 q (by rw [hin, List.take_of_length_le (by rw [hN.out]; omega)]; exact hq)
        simp [this]
      have r1 : rpE l k = 80 := by unfold rpE; rw [hnone]
      have rr := hidP (And.intro hnone r1)
      obtain ⟨V, hV⟩ : ∃ V, (((((wr.setCell ⟨w.heap.size, 0, none⟩ (.int .i64 0)).setCell ⟨w.heap.size, 1, none⟩ (.int .i64 0)).setCell ⟨w.heap.size, 2, none⟩ (.string ⟨#[]⟩)).setCell ⟨w.heap.size, 3, none⟩ (.bool false)).setCell ⟨w.heap.size, 4, none⟩ (.int .i64 0)).setCell ⟨w.heap.size, 5, none⟩ (.string ⟨#[]⟩) = V := ⟨_, rfl⟩
      obtain ⟨mV, d0, d1, d2, d3, d4, d5⟩ := six_set (fun j hj => by
        match j, hj with
        | 0, _ => rw [y0]; rfl
        | 1, _ => rw [y1]; rfl
        | 2, _ => rw [y2]; rfl
        | 3, _ => rw [y3]; rfl
        | 4, _ => rw [y4]; rfl
        | 5, _ => rw [y5]; rfl) hV
      have mw : Mv (fun _ => False) w V := hI.out.2.1.trans (E' := fun k => k = w.heap.size) (fun j hj => .inr (by omega)) mV
      have fin : Hid (Rg b g w g cap room last l V) := ⟨hH.out.mv mw (fun h => h) (fun h => h), mw.mono (fun k _ e => absurd e id), .inl rfl⟩
      clear hR hh mV mw hI hnone r1
      go_wp2_with (rw [hV])
      exact bodyPost_ret (v := .tuple #[prV zPr, .int .i64 80]) (by simp [results, Try.results16, go_sem, prV, zPr, d0, d1, d2, d3, d4, d5]) rfl ⟨by rw [rr.out.1, rr.out.2]; rfl, l, g, cap, .inl ⟨rr.out.1, rfl⟩, fin.out⟩
end Go.Proofs.Ytcikjnifkoagpaa
