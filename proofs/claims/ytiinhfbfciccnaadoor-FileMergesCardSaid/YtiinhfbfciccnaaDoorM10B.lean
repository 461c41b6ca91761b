/- The values of a section and key under FileMerges's first closure, which may stop them. -/
import Derived.Test.YtiinhfbfciccnaaDoorM9aB
namespace Go.Proofs.YtiinhfbfciccnaaDoor
open Go.RowKit Go.Shelf
/-- As many as are asked for. -/
def tk (st : Int) (H : List (Nat × ByteArray)) : List (Nat × ByteArray) := if 1 ≤ st then H.take st.toNat else H
set_option maxRecDepth 100000 in
set_option maxHeartbeats 4000000 in
theorem valsM (l : List St) (b1 b2 b3 pa pb ps : Nat) (st : Int) (v : Value) (sec key : ByteArray) (W0 : World) (hM1 : M1P W0.heap.size pa pb ps st) (hpa : pa < W0.heap.size) (hpb : pb < W0.heap.size) (hps : ps < W0.heap.size) (hne : pa ≠ pb) (hn1 : ps ≠ pa) (hn2 : ps ≠ pb)
    (hb : VBox (fun k => k = pa ∨ k = pb) W0 b1 b2 b3 v sec key l) (hfm : FM W0.heap.size pa pb [] [] (.slice none 0 0) (.slice none 0 0) W0) (cs : W0.cell? ⟨ps, 0, none⟩ = some (.int .i64 st)) (hl : l.length ≤ 240) :
    Calls Tryd.prog 44 #[.func (.func 17) #[] #[.pointer (some ⟨pa, 0, none⟩), .pointer (some ⟨pb, 0, none⟩), .pointer (some ⟨ps, 0, none⟩)], .pointer (some ⟨b1, 0, none⟩), .pointer (some ⟨b2, 0, none⟩), .pointer (some ⟨b3, 0, none⟩)] W0 fun e W' => e = .returned (.tuple #[]) ∧ (∃ v1 v2, FM W0.heap.size pa pb ((tk st (hits sec key 0 l)).map fun p => (p.1 : Int)) ((tk st (hits sec key 0 l)).map Prod.snd) v1 v2 W') ∧ Mv (Td2 W0.heap.size pa pb) W0 W' := by
  have hTd : ∀ k, ¬ (k = pa ∨ k = pb) → k < W0.heap.size → ¬ Td2 W0.heap.size pa pb k := fun k h1 h2 h => by rcases h with h | h | h; exact h1 (.inl h); exact h1 (.inr h); omega
  have d1 := hb.c1
  have d2 := hb.c2
  have d3 := hb.c3
  have f2 : ¬ Td2 W0.heap.size pa pb b2 := hTd _ hb.e2 (cell_lt d2)
  have f3 : ¬ Td2 W0.heap.size pa pb b3 := hTd _ hb.e3 (cell_lt d3)
  have fs : ¬ Td2 W0.heap.size pa pb ps := hTd _ (by omega) hps
  obtain ⟨a, cap, rfl, hs1⟩ := id hb.sl
  obtain ⟨n, hn⟩ : ∃ n, l.length = n := ⟨_, rfl⟩
  rw [hn] at d1 hs1 hl
  have hN : Hid (l.length = n) := hn
  obtain ⟨H, hH⟩ : ∃ H, hits sec key 0 l = H := ⟨_, rfl⟩
  rw [hH]
  have hHH : Hid (hits sec key 0 l = H) := hH
  have hfmH : Hid (FM W0.heap.size pa pb [] [] (.slice none 0 0) (.slice none 0 0) W0) := hfm
  have hM1H : Hid (M1P W0.heap.size pa pb ps st) := hM1
  clear hn hb hfm hH hM1
  go_enter Tryd.func44, Tryd.ntmps44
  go_wp2_with fail
  go_loopw [9] (fun i wr => ∃ (k : Nat) (acc : List (Nat × ByteArray)), k ≤ n ∧ i = .int .i64 k ∧ acc.length ≤ k ∧ (st ≤ 0 ∨ (acc.length : Int) < st) ∧ Hid (H = acc ++ hits sec key k (l.drop k)) ∧ Hid (∃ v1 v2, FM W0.heap.size pa pb (acc.map fun p => (p.1 : Int)) (acc.map Prod.snd) v1 v2 wr) ∧ Mv (Td2 W0.heap.size pa pb) W0 wr) (fun i _ => n - (intOf i).toNat)
  case atStart => exact ⟨0, [], by omega, rfl, by simp, by simp; omega, by show _ = _; rw [List.drop_zero]; exact hHH.out.symm, ⟨_, _, hfmH.out⟩, Mv.refl _ _⟩
  case round =>
    obtain ⟨k, acc, hk, rfl, hal, hst, hacc, hfm, hm⟩ := hrel
    by_cases hlt : k < n
    · obtain ⟨gb, o, rfl, hgb, hs2⟩ := hs1 (by omega)
      obtain ⟨x, hx⟩ : ∃ x, l[k]? = some x := ⟨_, List.getElem?_eq_getElem (by rw [hN.out]; exact hlt)⟩
      rw [dropS hx] at hacc
      have hgl : gb < W0.heap.size := cell_lt (hs2 k x hx).c0
      obtain ⟨p0, p1, p2, p3⟩ := (hs2 k x hx).mv hm (hTd _ hgb hgl)
      have c2 := hm.cell f2 d2
      have c3 := hm.cell f3 d3
      have cS := hm.cell fs cs
      have hkI : (k : Int) < (n : Int) := by omega
      have hms := hm.size
      obtain ⟨U1, hU1⟩ : ∃ U1, wr.alloc (.cells #[.string x.s, .string x.k, .string x.v, .int .i64 x.n] 44) = U1 := ⟨_, rfl⟩
      have mU1 : ∀ F, Mv F wr U1 := fun F => by rw [← hU1]; exact Mv.alloc _ _ _
      have x0 : U1.cell? ⟨wr.heap.size, 0, none⟩ = some (.string x.s) := by rw [← hU1]; exact cell_at rfl rfl
      have x1 : U1.cell? ⟨wr.heap.size, 1, none⟩ = some (.string x.k) := by rw [← hU1]; exact cell_at rfl rfl
      have x2 : U1.cell? ⟨wr.heap.size, 2, none⟩ = some (.string x.v) := by rw [← hU1]; exact cell_at rfl rfl
      have y2 := (mU1 (fun _ => False)).cell (fun h => h) c2
      have y3 := (mU1 (fun _ => False)).cell (fun h => h) c3
      have yS := (mU1 (fun _ => False)).cell (fun h => h) cS
      have hmU := hidI6 (hm.trans' (mU1 _))
      have hfmU : Hid (∃ v1 v2, FM W0.heap.size pa pb (acc.map fun p => (p.1 : Int)) (acc.map Prod.snd) v1 v2 U1) := by
        obtain ⟨v1, v2, h⟩ := hfm.out
        exact ⟨v1, v2, h.c1.mv (mU1 (fun _ => False)) (fun h => h), h.c2.mv (mU1 (fun _ => False)) (fun h => h), own_mv h.o1 (mU1 (fun _ => False)) (fun _ _ h => h), own_mv h.o2 (mU1 (fun _ => False)) (fun _ _ h => h), h.dis⟩
      have hsU := (mU1 (fun _ => False)).size
      clear hs2 hx hs1 hm hfm cS
      by_cases e1 : x.s = sec
      · have e1b : (x.s.toList == sec.toList) = true := by rw [str_eq', e1]; simp
        by_cases e2 : x.k = key
        · have e2b : (x.k.toList == key.toList) = true := by rw [str_eq', e2]; simp
          rw [hits_yes e1 e2] at hacc
          obtain ⟨v1, v2, hfm⟩ := hfmU.out
          have hcall := hM1H.out k x.v v1 v2 _ _ U1 (by omega) hpa hpb hps hne hn1 hn2 hfm yS (by simp; omega) (by simp)
          simp only [List.length_map] at hcall
          have hacc2 : Hid (H = (acc ++ [(k, x.v)]) ++ hits sec key (k + 1) (l.drop (k + 1))) := by show _ = _; rw [hacc.out]; simp
          by_cases hq : (acc.length : Int) + 1 = st
          · rw [decide_eq_false (fun h => h hq)] at hcall
            have hcallH := hidI6 hcall
            have hfin : Hid (tk st H = acc ++ [(k, x.v)]) := by
              show _ = _
              unfold tk
              rw [if_pos (by omega), hacc2.out, List.take_append_of_le_length (by simp; omega), List.take_of_length_le (by simp; omega)]
            clear e1 e2 hcall hacc hfm hfmU
            go_wp2_with (first | rw [hU1] | (go_at_call 17; refine hcallH.out.mono ?_; rintro e w' ⟨rfl, hfm', hmv⟩))
            refine bodyPost_ret (results_none rfl _ _ _) rfl ?_
            refine ⟨rfl, ?_, hmU.out.trans' hmv⟩
            rw [hfin.out]
            obtain ⟨v1', v2', h'⟩ := hfm'
            exact ⟨v1', v2', by simpa using h'⟩
          · rw [decide_eq_true hq] at hcall
            have hcallH := hidI6 hcall
            clear e1 e2 hcall hacc hfm hfmU
            go_wp2_with (first | rw [hU1] | (go_at_call 17; refine hcallH.out.mono ?_; rintro e w' ⟨rfl, hfm', hmv⟩))
            have hfm2 : Hid (∃ v1 v2, FM W0.heap.size pa pb ((acc ++ [(k, x.v)]).map fun p => (p.1 : Int)) ((acc ++ [(k, x.v)]).map Prod.snd) v1 v2 w') := by
              obtain ⟨v1', v2', h'⟩ := hfm'
              exact ⟨v1', v2', by simpa using h'⟩
            exact ⟨⟨k + 1, acc ++ [(k, x.v)], by omega, by go_num, by simp; omega, by simp; omega, hacc2, hfm2, hmU.out.trans' hmv⟩, by simp [intOf]; omega⟩
        · have e2b : (x.k.toList == key.toList) = false := by rw [str_eq', decide_eq_false e2]
          rw [hits_no (fun h => e2 h.2)] at hacc
          clear e1 e2
          go_wp2_with (rw [hU1])
          exact ⟨⟨k + 1, acc, by omega, by go_num, by omega, hst, hacc, hfmU, hmU.out⟩, by simp [intOf]; omega⟩
      · have e1b : (x.s.toList == sec.toList) = false := by rw [str_eq', decide_eq_false e1]
        rw [hits_no (fun h => e1 h.1)] at hacc
        clear e1
        go_wp2_with (rw [hU1])
        exact ⟨⟨k + 1, acc, by omega, by go_num, by omega, hst, hacc, hfmU, hmU.out⟩, by simp [intOf]; omega⟩
    · obtain rfl : k = n := by omega
      have hkI : ¬ ((k : Int) < (k : Int)) := by omega
      have hfin : Hid (tk st H = acc) := by
        have := hacc.out
        rw [List.drop_of_length_le (by rw [hN.out]; omega)] at this
        simp only [hits, List.append_nil] at this
        show _ = _
        unfold tk
        rw [this]
        split
        · exact List.take_of_length_le (by omega)
        · rfl
      have hmH := hidI6 hm
      clear hm hacc
      go_wp2_with fail
      refine bodyPost_end (v := .tuple #[]) (by simp [results, Tryd.results44, go_sem]) rfl ?_
      refine ⟨rfl, ?_, hmH.out⟩
      rw [hfin.out]
      exact hfm.out
end Go.Proofs.YtiinhfbfciccnaaDoor
