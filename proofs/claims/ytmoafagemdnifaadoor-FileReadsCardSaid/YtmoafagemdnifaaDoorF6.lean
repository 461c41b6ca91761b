/- The contract of the reference's Parse. -/
import Derived.Test.YtmoafagemdnifaaDoorF6a
import Derived.Deep.AppendLies
import Derived.Deep.RegionLaw
namespace Go.Proofs.YtmoafagemdnifaaDoor
open Go.RowKit Go.Shelf Lin
set_option maxRecDepth 100000 in
set_option maxHeartbeats 8000000 in
theorem rparse_lines (s : ByteArray) (w : World) (R : Res) (hR : ∀ w, Calls Tryd.prog 25 #[.string s] w (LinesP R w)) (hlen : ∀ l, R = .ok l → l.length ≤ 5000) (hne : ∀ n k, R = .error (n, k) → k ≠ 0) : Calls Tryd.prog 9 #[.string s] w (ParseP (filL R) w) := by
  obtain ⟨i0, hinf, hz0, hz1, hz2⟩ := info_parts infoSt
  obtain ⟨W0, hW0⟩ : ∃ W0, w.alloc (.cells #[.slice none 0 0] 25) = W0 := ⟨_, rfl⟩
  have hb0 : Below w.heap.size w W0 := by rw [← hW0]; exact (Below.refl _ w).alloc (Nat.le_refl _) _
  have k0 : Cl w.heap.size (.slice none 0 0) W0 := by rw [← hW0]; exact ⟨cell_at rfl rfl, World.frozen?_alloc_new _ _ _ _⟩
  have hL := hR W0
  have hs0 : w.heap.size < W0.heap.size := k0.lt
  clear hR
  cases R with
  | error e =>
    obtain ⟨n, k⟩ := e
    have hL' : Hid (Calls Tryd.prog 25 #[.string s] W0 fun e w' => e = .returned (.tuple #[.slice none 0 0, .int .i64 n, .int .i64 k]) ∧ Below W0.heap.size W0 w') := hL
    have hk : k ≠ 0 := hne n k rfl
    clear hL hlen hne
    have hkI : (k != 0) = true := by simpa using hk
    have hkJ : (k == 0) = false := by simpa using hk
    go_enter Tryd.func9, Tryd.ntmps9
    go_wp2_with (rw [hW0])
    refine hL'.out.mono ?_
    rintro e w1 ⟨rfl, hb1⟩
    have m1 : Mv (fun _ => False) W0 w1 := Mv.below hb1
    have k1 := k0.mv m1 (fun h => h)
    have r0 := k1.c
    have r1 := k1.f
    obtain ⟨w2, hw2⟩ : ∃ w2, w1.setCell ⟨w.heap.size, 0, none⟩ (.slice none 0 0) = w2 := ⟨_, rfl⟩
    have k2 : Cl w.heap.size (.slice none 0 0) w2 := by rw [← hw2]; exact k1.set _
    have r2 := k2.c
    have hb2 : Below w.heap.size w w2 := by rw [← hw2]; exact ((hb0.trans (hb1.mono (by omega))).setCell (p := ⟨w.heap.size, 0, none⟩) (by simp) _)
    go_wp2_with (rw [hw2])
    refine bodyPost_ret (v := .tuple #[.agg #[.slice none 0 0], .int .i64 n, .int .i64 k]) (by simp [results, Tryd.results9, go_sem, r2]) rfl ?_
    exact ⟨rfl, hb2⟩
  | ok l =>
    have hll := hlen l rfl
    have hL' : Hid (Calls Tryd.prog 25 #[.string s] W0 fun e w' => ∃ v, e = .returned (.tuple #[v, .int .i64 0, .int .i64 0]) ∧ w'.ownsRow W0.heap.size 60 4 v l.length (lnsC l) ∧ Below W0.heap.size W0 w') := hL
    clear hL hlen hne
    obtain ⟨nl, hnl⟩ : ∃ nl, l.length = nl := ⟨_, rfl⟩
    go_enter Tryd.func9, Tryd.ntmps9
    go_wp2_with (rw [hW0])
    refine hL'.out.mono ?_
    rintro e w1 ⟨v, rfl, hown1, hb1⟩
    obtain ⟨a, g, cap, rfl, ha, hat, _⟩ := own_lines hown1
    have hatH : Hid (LnAt w1 g l) := hat
    have m1 : Mv (fun _ => False) W0 w1 := Mv.below hb1
    have k1 := k0.mv m1 (fun h => h)
    have hbw1 : Below w.heap.size w w1 := hb0.trans (hb1.mono (by omega))
    have hk1 : w.heap.size < w1.heap.size := k1.lt
    rw [hnl] at ha hll ⊢
    have hN : Hid (l.length = nl) := hnl
    obtain ⟨W2, hW2⟩ : ∃ W2, w1.alloc (.cells #[.slice none 0 0] 25) = W2 := ⟨_, rfl⟩
    have kf : Cl w1.heap.size (.slice none 0 0) W2 := by rw [← hW2]; exact ⟨cell_at rfl rfl, World.frozen?_alloc_new _ _ _ _⟩
    have hb2 : Below w1.heap.size w1 W2 := by rw [← hW2]; exact (Below.refl _ w1).alloc (Nat.le_refl _) _
    clear hL' hown1 hat hnl hb1 m1
    go_wp2_with (rw [hW2])
    go_loopw [9, 10] (fun sc i wr => ∃ (k : Nat) (S : ByteArray) (acc : List St) (v : Value), k ≤ nl ∧ i = .int .i64 k ∧ sc = .string S ∧ acc.length ≤ k ∧ Hid (pf ⟨#[]⟩ [] l = pf S acc (l.drop k)) ∧ Hid (wr.ownsRow (w1.heap.size + 1) 44 4 v acc.length (stsC acc)) ∧ Cl w1.heap.size v wr ∧ Below w1.heap.size w1 wr) (fun _ i _ => nl - (intOf i).toNat)
    case atStart => exact ⟨0, _, [], _, by omega, rfl, rfl, by simp, by show _ = _; rw [List.drop_zero], World.ownsRow_nil _ _ _ _, kf, hb2⟩
    case round =>
      clear hb2 kf hW2
      obtain ⟨k, S, acc, v, hk, rfl, rfl, hal, hacc, hown, hf, hb⟩ := hrel
      by_cases hlt : k < nl
      · obtain rfl := ha (by omega)
        obtain ⟨x, hx⟩ : ∃ x, l[k]? = some x := ⟨_, List.getElem?_eq_getElem (by rw [hN.out]; exact hlt)⟩
        have hdr : l.drop k = x :: l.drop (k + 1) := by
          obtain ⟨h1, h2⟩ := List.getElem?_eq_some_iff.1 hx
          rw [List.drop_eq_getElem_cons h1, h2]
        have mr : Mv (fun _ => False) w1 wr := Mv.below hb
        obtain ⟨p0, p1, p2, p3⟩ := hatH.out k x hx
        have hgl : g < w1.heap.size := cell_lt p0
        replace p0 := mr.cell (fun h => h) p0
        replace p1 := mr.cell (fun h => h) p1
        replace p2 := mr.cell (fun h => h) p2
        replace p3 := mr.cell (fun h => h) p3
        rw [hdr] at hacc
        obtain ⟨kd, ky, vl, nm⟩ := x
        obtain ⟨K, rfl, _, hKe⟩ := letters ky
        obtain ⟨V, rfl, _, hVe⟩ := letters vl
        simp only [hKe, hVe] at p1 p2
        have hkI : (k : Int) < (nl : Int) := by omega
        have hbr := hb.size
        clear hx hdr
        by_cases hkd : kd = 1
        · subst hkd
          rw [pf_sec rfl] at hacc
          simp only [hKe] at hacc
          clear hKe hVe
          go_wp2_with fail
          exact ⟨⟨k + 1, K, acc, v, by omega, by go_num, rfl, by omega, hacc, hown, hf, hb⟩, by simp [intOf]; omega⟩
        · have hkdI : ((kd : Int) == 1) = false := by simp; omega
          by_cases hS : S = ⟨#[]⟩
          · rw [pf_bad hkd hS] at hacc
            have hSe : (S.toList == []) = true := by rw [str_nil, hS]; rfl
            clear hS hKe hVe
            have k2 := k1.mv mr (fun h => h)
            have r0 := k2.c
            have r1 := k2.f
            obtain ⟨w3, hw3⟩ : ∃ w3, wr.drew.setCell ⟨w.heap.size, 0, none⟩ (.slice none 0 0) = w3 := ⟨_, rfl⟩
            have q4 : w3.cell? ⟨g, k * 4 + 3, none⟩ = some (.int .i64 nm) := by
              rw [← hw3, World.cell?_setCell_other _ _ _ _ (fun e => by simp at e)]; exact p3
            have k3 : Cl w.heap.size (.slice none 0 0) w3 := by rw [← hw3]; exact Cl.set (W := wr.drew) ⟨k2.c, k2.f⟩ _
            have r2 := k3.c
            have hb3 : Below w.heap.size w w3 := by
              rw [← hw3]; exact (hbw1.trans (hb.mono (by omega))).drew.setCell (p := ⟨w.heap.size, 0, none⟩) (by simp) _
            have hErr : Hid (filL (.ok l) = .error (nm, 60)) := by
              show filL _ = _
              simp only [filL, hacc.out]
            go_wp2_with fail
            go_region
            all_goals go_wp2_with fail
            all_goals
              refine bodyPost_ret (v := .tuple #[.agg #[.slice none 0 0], .int .i64 nm, .int .i64 60]) (by simp [results, Tryd.results9, go_sem, r2]) rfl ?_
              rw [hErr.out]
              exact ⟨rfl, hb3⟩
          · rw [pf_set hkd hS] at hacc
            simp only [hKe, hVe] at hacc
            have hSe : (S.toList == []) = false := by rw [str_nil]; simp [hS]
            clear hS hKe hVe
            have f0 := hf.c
            have f1 := hf.f
            have hfl := hf.lt
            have hgf : g ≠ w1.heap.size := by omega
            obtain ⟨ao, n', cap', rfl⟩ := own_slice hown.out
            have nof : ∀ q, (Value.slice ao n' cap').ownBlock = some q → w1.heap.size + 1 ≤ q := fun q e => (hown.out.lt q e).1
            go_wp2_with fail
            have ng : ¬ (Value.slice ao n' cap').ownBlock = some g := fun e => by have := nof _ e; omega
            have hcl : ∀ y, Mv (fun q => (Value.slice ao n' cap').ownBlock = some q) wr y → Cl w1.heap.size (.slice ao n' cap') y := fun y m => hf.mv m (fun e => by have := nof _ e; omega)
            have hall : ∀ y, Mv (fun q => (Value.slice ao n' cap').ownBlock = some q ∨ q = w1.heap.size) wr y → (y.cell? ⟨g, k * 4 + 1, none⟩ = some (.string K) ∧ y.cell? ⟨g, k * 4 + 2, none⟩ = some (.string V) ∧ y.cell? ⟨g, k * 4 + 3, none⟩ = some (.int .i64 nm)) ∧ Hid (Mv (fun q => (Value.slice ao n' cap').ownBlock = some q ∨ q = w1.heap.size) wr y) := fun y m =>
              have ng' : ¬ ((Value.slice ao n' cap').ownBlock = some g ∨ g = w1.heap.size) := fun e => e.elim ng hgf
              ⟨⟨m.cell ng' p1, m.cell ng' p2, m.cell ng' p3⟩, m⟩
            have hA := (hcl _ ((Mv.alloc _ wr (.cells #[.string S, .string K, .string V, .int .i64 nm] 44)).trans' (Mv.drew _ _))).c
            have hbw : w1.heap.size + 1 ≤ (wr.alloc (.cells #[.string S, .string K, .string V, .int .i64 nm] 44)).drew.heap.size := by show _ ≤ (wr.alloc _).heap.size; rw [World.size_alloc]; omega
            go_region_law (refine step_append_lies _ (by rfl) _ _ _ (by rfl) (w1.heap.size + 1) 44 i0 _ 4 56 Tryd.underlying23 hinf hz0 hz1 hz2 rfl (by omega) _ _ _ (by rfl) ((hown.out.alloc _).drew) ⟨_, 0, none⟩ 1 1 [_, _, _, _] (by rfl) (by rfl) (World.news_of_block (cs := #[_, _, _, _]) (t := 44) (fr := (0, 0)) (heap_alloc_new _ _)) (by simp [Value.oneCell']) (by omega) (by unfold maxLen; omega) (by omega) hbw _ rfl ?_; intro g' cap'' w3 hown' hgrow hat hlt'; have hq := hcl w3 (((Mv.alloc _ _ _).trans' (Mv.drew _ _)).grown hgrow (fun k e => .inl e)); have hq1 := hq.c; have hq2 := hq.f)
            all_goals
              have hb4 : Below w1.heap.size w1 w3 := ((hb.alloc hb.size _).drew).grown hgrow (by have := hbr; show _ ≤ (wr.alloc _).heap.size; rw [World.size_alloc]; omega) (fun k e => by have := nof k e; omega)
              have hb5 : Below w1.heap.size w1 (w3.setCell ⟨w1.heap.size, 0, none⟩ (.slice (some ⟨g', 0, none⟩) (acc.length + 1) cap'')) := hb4.setCell (p := ⟨w1.heap.size, 0, none⟩) (by simp) _
              have ms : Mv (fun k => k = w1.heap.size) w3 (w3.setCell ⟨w1.heap.size, 0, none⟩ (.slice (some ⟨g', 0, none⟩) (acc.length + 1) cap'')) := Mv.set1 (E := fun k => k = w1.heap.size) rfl _
              have ho5 := own_mv hown' ms (fun g hg e => by have := (hown'.lt g hg).1; omega)
              have hf5 := hq.set (.slice (some ⟨g', 0, none⟩) (acc.length + 1) cap'')
              go_wp2_with fail
              exact ⟨⟨k + 1, S, acc ++ [⟨S, K, V, nm⟩], _, by omega, by go_num, rfl, by simp; omega, hacc, by rw [stsC_snoc, List.length_append]; exact ho5, hf5, hb5⟩, by simp [intOf]; omega⟩
      · obtain rfl : k = nl := by omega
        have hkI : ¬ ((k : Int) < (k : Int)) := by omega
        have hOk : Hid (filL (.ok l) = .ok acc) := by
          have := hacc.out
          rw [List.drop_of_length_le (by rw [hN.out]; omega)] at this
          have h2 : pf ⟨#[]⟩ [] l = .ok acc := this
          show filL _ = _
          simp only [filL, h2]
        have mr : Mv (fun _ => False) w1 wr := Mv.below hb
        have k2 := k1.mv mr (fun h => h)
        have r0 := k2.c
        have r1 := k2.f
        have f0 := hf.c
        obtain ⟨ao, n', cap', rfl⟩ := own_slice hown.out
        obtain ⟨w2, hw2⟩ : ∃ w2, wr.setCell ⟨w.heap.size, 0, none⟩ (.slice ao n' cap') = w2 := ⟨_, rfl⟩
        have ms : Mv (fun k => k = w.heap.size) wr w2 := by rw [← hw2]; exact Mv.set1 (E := fun k => k = w.heap.size) rfl _
        have k3 : Cl w.heap.size (.slice ao n' cap') w2 := by rw [← hw2]; exact k2.set _
        have r2 := k3.c
        have hown2 := own_mv hown.out ms (fun g hg e => by have := (hown.out.lt g hg).1; omega)
        have hb2 : Below w.heap.size w w2 := by rw [← hw2]; exact ((hbw1.trans (hb.mono (by omega))).setCell (p := ⟨w.heap.size, 0, none⟩) (by simp) _)
        go_wp2_with (rw [hw2])
        refine bodyPost_ret (v := .tuple #[.agg #[.slice ao n' cap'], .int .i64 0, .int .i64 0]) (by simp [results, Tryd.results9, go_sem, r2]) rfl ?_
        rw [hOk.out]
        exact ⟨_, rfl, own_base hown2 (by omega), hb2⟩
end Go.Proofs.YtmoafagemdnifaaDoor
