/- The contract of unitfile.Parse. -/
import Derived.Test.YtmoafagemdnifaaDoorF4
import Derived.Test.YtmoafagemdnifaaDoorB6
import Derived.Test.YtmoafagemdnifaaDoorR8
namespace Go.Proofs.YtmoafagemdnifaaDoor
open Go.RowKit Go.Shelf Lin
/-- The settings of lines: sec: the section; or the number of a line ahead of all sections. -/
def pf (sec : ByteArray) (acc : List St) : List Ln → Except Nat (List St)
  | [] => .ok acc
  | x :: r => if x.1 = 1 then pf ⟨x.2.1.toArray⟩ acc r else if sec = ⟨#[]⟩ then .error x.2.2.2 else pf sec (acc ++ [⟨sec, ⟨x.2.1.toArray⟩, ⟨x.2.2.1.toArray⟩, x.2.2.2⟩]) r
abbrev FRes := Except (Nat × Int) (List St)
/-- A unit file of lines. -/
def filL : Res → FRes
  | .error e => .error e
  | .ok l => match pf ⟨#[]⟩ [] l with
    | .ok a => .ok a
    | .error n => .error (n, 60)
/-- What Parse tells. -/
def ParseP (r : FRes) (w : World) (e : Ending) (w' : World) : Prop := match r with
  | .ok l => ∃ v, e = .returned (.tuple #[.agg #[v], .int .i64 0, .int .i64 0]) ∧ w'.ownsRow w.heap.size 44 4 v l.length (stsC l) ∧ Below w.heap.size w w'
  | .error (n, k) => e = .returned (.tuple #[.agg #[.slice none 0 0], .int .i64 n, .int .i64 k]) ∧ Below w.heap.size w w'
theorem pf_sec {sec : ByteArray} {acc : List St} {x : Ln} {r : List Ln} (h : x.1 = 1) : pf sec acc (x :: r) = pf ⟨x.2.1.toArray⟩ acc r := by simp [pf, h]
theorem pf_bad {sec : ByteArray} {acc : List St} {x : Ln} {r : List Ln} (h : x.1 ≠ 1) (h2 : sec = ⟨#[]⟩) : pf sec acc (x :: r) = .error x.2.2.2 := by simp [pf, h, h2]
theorem pf_set {sec : ByteArray} {acc : List St} {x : Ln} {r : List Ln} (h : x.1 ≠ 1) (h2 : sec ≠ ⟨#[]⟩) : pf sec acc (x :: r) = pf sec (acc ++ [⟨sec, ⟨x.2.1.toArray⟩, ⟨x.2.2.1.toArray⟩, x.2.2.2⟩]) r := by simp [pf, h, h2]
theorem own_slice {w : World} {base : Nat} {e : TypeId} {size : Nat} {v : Value} {n : Nat} {xs : List Value} (h : w.ownsRow base e size v n xs) : ∃ ao n' cap, v = .slice ao n' cap := by
  rcases h.2 with ⟨hv, _⟩ | ⟨g, cap, cur, hv, _⟩
  · exact ⟨_, _, _, hv⟩
  · exact ⟨_, _, _, hv⟩
set_option maxRecDepth 100000 in
set_option maxHeartbeats 8000000 in
theorem parse_lines (s : ByteArray) (w : World) (R : Res) (hR : ∀ w, Mx w → Calls Tryd.prog 24 #[.string s] w (LinesP R w)) (hlen : ∀ l, R = .ok l → l.length ≤ 5000) (hne : ∀ n k, R = .error (n, k) → k ≠ 0) (hg : Mx w) : Calls Tryd.prog 8 #[.string s] w (ParseP (filL R) w) := by
  obtain ⟨i0, hinf, hz0, hz1, hz2⟩ := info_parts infoSt
  obtain ⟨W0, hW0⟩ : ∃ W0, w.alloc (.cells #[.slice none 0 0] 25) = W0 := ⟨_, rfl⟩
  have hb0 : Below w.heap.size w W0 := by rw [← hW0]; exact (Below.refl _ w).alloc (Nat.le_refl _) _
  have k0 : Cl w.heap.size (.slice none 0 0) W0 := by rw [← hW0]; exact ⟨cell_at rfl rfl, World.frozen?_alloc_new _ _ _ _⟩
  have hL := hR W0 (hg.below hb0)
  have hs0 : w.heap.size < W0.heap.size := k0.lt
  clear hR hg
  cases R with
  | error e =>
    obtain ⟨n, k⟩ := e
    have hL' : Hid (Calls Tryd.prog 24 #[.string s] W0 fun e w' => e = .returned (.tuple #[.slice none 0 0, .int .i64 n, .int .i64 k]) ∧ Below W0.heap.size W0 w') := hL
    have hk : k ≠ 0 := hne n k rfl
    clear hL hlen hne
    have hkI : (k != 0) = true := by simpa using hk
    have hkJ : (k == 0) = false := by simpa using hk
    go_enter Tryd.func8, Tryd.ntmps8
    go_wp2_with (rw [hW0])
    refine hL'.out.mono ?_
    rintro e w1 ⟨rfl, hb1⟩
    have m1 : Mv (fun _ => False) W0 w1 := Mv.below hb1
    have k1 := k0.mv m1 (fun h => h)
    have r0 := k1.c
    have r1 := k1.f
    obtain ⟨w2, hw2⟩ : ∃ w2, w1.setCell ⟨w.heap.size, 0, none⟩ (.slice none 0 0) = w2 := ⟨_, rfl⟩
    have k2 : Cl w.heap.size (.slice none 0 0) w2 := by rw [← hw2]; exact k1.set _
    have r2 := k2.c
    have hb2 : Below w.heap.size w w2 := by rw [← hw2]; exact ((hb0.trans (hb1.mono (by omega))).setCell (p := ⟨w.heap.size, 0, none⟩) (by simp) _)
    go_wp2_with (rw [hw2])
    refine bodyPost_ret (v := .tuple #[.agg #[.slice none 0 0], .int .i64 n, .int .i64 k]) (by simp [results, Tryd.results8, go_sem, r2]) rfl ?_
    exact ⟨rfl, hb2⟩
  | ok l =>
    have hll := hlen l rfl
    have hL' : Hid (Calls Tryd.prog 24 #[.string s] W0 fun e w' => ∃ v, e = .returned (.tuple #[v, .int .i64 0, .int .i64 0]) ∧ w'.ownsRow W0.heap.size 60 4 v l.length (lnsC l) ∧ Below W0.heap.size W0 w') := hL
    clear hL hlen hne
    obtain ⟨nl, hnl⟩ : ∃ nl, l.length = nl := ⟨_, rfl⟩
    go_enter Tryd.func8, Tryd.ntmps8
    go_wp2_with (rw [hW0])
    refine hL'.out.mono ?_
    rintro e w1 ⟨v, rfl, hown1, hb1⟩
    obtain ⟨a, g, cap, rfl, ha, hat, _⟩ := own_lines hown1
    have hatH : Hid (LnAt w1 g l) := hat
    have m1 : Mv (fun _ => False) W0 w1 := Mv.below hb1
    have k1 := k0.mv m1 (fun h => h)
    have hbw1 : Below w.heap.size w w1 := hb0.trans (hb1.mono (by omega))
    have hk1 : w.heap.size < w1.heap.size := k1.lt
    rw [hnl] at ha hll ⊢
    have hN : Hid (l.length = nl) := hnl
    clear hL' hown1 hat hnl hb1 m1
    go_wp2_with fail
    go_loopw [8, 9, 25] (fun v sc i wr => ∃ (k : Nat) (S : ByteArray) (acc : List St), k ≤ nl ∧ i = .int .i64 k ∧ sc = .string S ∧ acc.length ≤ k ∧ Hid (pf ⟨#[]⟩ [] l = pf S acc (l.drop k)) ∧ Hid (wr.ownsRow w1.heap.size 44 4 v acc.length (stsC acc)) ∧ Below w1.heap.size w1 wr) (fun _ _ i _ => nl - (intOf i).toNat)
    case atStart => exact ⟨0, _, [], by omega, rfl, rfl, by simp, by show _ = _; rw [List.drop_zero], World.ownsRow_nil _ _ _ _, Below.refl _ _⟩
    case round =>
      obtain ⟨k, S, acc, hk, rfl, rfl, hal, hacc, hown, hb⟩ := hrel
      by_cases hlt : k < nl
      · obtain rfl := ha (by omega)
        obtain ⟨x, hx⟩ : ∃ x, l[k]? = some x := ⟨_, List.getElem?_eq_getElem (by rw [hN.out]; exact hlt)⟩
        have hdr : l.drop k = x :: l.drop (k + 1) := by
          obtain ⟨h1, h2⟩ := List.getElem?_eq_some_iff.1 hx
          rw [List.drop_eq_getElem_cons h1, h2]
        have mr : Mv (fun _ => False) w1 wr := Mv.below hb
        obtain ⟨p0, p1, p2, p3⟩ := hatH.out k x hx
        replace p0 := mr.cell (fun h => h) p0
        replace p1 := mr.cell (fun h => h) p1
        replace p2 := mr.cell (fun h => h) p2
        replace p3 := mr.cell (fun h => h) p3
        rw [hdr] at hacc
        obtain ⟨kd, ky, vl, nm⟩ := x
        obtain ⟨K, rfl, _, hKe⟩ := letters ky
        obtain ⟨V, rfl, _, hVe⟩ := letters vl
        simp only [hKe, hVe] at p1 p2
        have hkI : (k : Int) < (nl : Int) := by omega
        have hbr := hb.size
        clear hx hdr
        by_cases hkd : kd = 1
        · subst hkd
          rw [pf_sec rfl] at hacc
          simp only [hKe] at hacc
          clear hKe hVe
          go_wp2_with fail
          exact ⟨⟨k + 1, K, acc, by omega, by go_num, rfl, by omega, hacc, own_below hown.out ((Below.refl _ _).alloc (Nat.le_refl _) _), hb.alloc hb.size _⟩, by simp [intOf]; omega⟩
        · have hkdI : ((kd : Int) == 1) = false := by simp; omega
          by_cases hS : S = ⟨#[]⟩
          · rw [pf_bad hkd hS] at hacc
            have hSe : (S.toList == []) = true := by rw [str_nil, hS]; rfl
            clear hS hKe hVe
            obtain ⟨w2, hw2⟩ : ∃ w2, wr.alloc (.cells #[.int .i64 kd, .string K, .string V, .int .i64 nm] 60) = w2 := ⟨_, rfl⟩
            have m2 : Mv (fun _ => False) wr w2 := by rw [← hw2]; exact Mv.alloc _ _ _
            have q0 : w2.cell? ⟨wr.heap.size, 0, none⟩ = some (.int .i64 kd) := by rw [← hw2]; exact cell_at rfl rfl
            have q3 : w2.cell? ⟨wr.heap.size, 3, none⟩ = some (.int .i64 nm) := by rw [← hw2]; exact cell_at rfl rfl
            have k2 := (k1.mv mr (fun h => h)).mv m2 (fun h => h)
            have r0 := k2.c
            have r1 := k2.f
            obtain ⟨w3, hw3⟩ : ∃ w3, w2.drew.setCell ⟨w.heap.size, 0, none⟩ (.slice none 0 0) = w3 := ⟨_, rfl⟩
            have hne1 : w.heap.size < wr.heap.size := by omega
            have q4 : w3.cell? ⟨wr.heap.size, 3, none⟩ = some (.int .i64 nm) := by
              rw [← hw3, World.cell?_setCell_other _ _ _ _ (fun e => by simp at e)]; exact q3
            have k3 : Cl w.heap.size (.slice none 0 0) w3 := by rw [← hw3]; exact Cl.set (W := w2.drew) ⟨k2.c, k2.f⟩ _
            have r2 := k3.c
            have hb3 : Below w.heap.size w w3 := by
              have h2 : Below w.heap.size w w2 := by rw [← hw2]; exact (hbw1.trans (hb.mono (by omega))).alloc (by omega) _
              rw [← hw3]; exact h2.drew.setCell (p := ⟨w.heap.size, 0, none⟩) (by simp) _
            have hErr : Hid (filL (.ok l) = .error (nm, 60)) := by
              show filL _ = _
              simp only [filL, hacc.out]
            go_wp2_with (first | rw [hw2])
            go_region
            all_goals go_wp2_with fail
            all_goals
              refine bodyPost_ret (v := .tuple #[.agg #[.slice none 0 0], .int .i64 nm, .int .i64 60]) (by simp [results, Tryd.results8, go_sem, r2]) rfl ?_
              rw [hErr.out]
              exact ⟨rfl, hb3⟩
          · rw [pf_set hkd hS] at hacc
            simp only [hKe, hVe] at hacc
            have hSe : (S.toList == []) = false := by rw [str_nil]; simp [hS]
            clear hS hKe hVe
            have hr1 := (hown.out.alloc (.cells #[.int .i64 kd, .string K, .string V, .int .i64 nm] 60)).alloc (.cells #[.string S, .string K, .string V, .int .i64 nm] 44)
            go_wp2_with (at_builtin; refine wpList_append_own_at _ rfl _ _ 23 rfl w1.heap.size 44 i0 (.agg #[.string ⟨#[]⟩, .string ⟨#[]⟩, .string ⟨#[]⟩, .int .i64 0]) 4 56 Tryd.underlying23 hinf hz0 hz1 hz2 rfl (by decide) _ _ _ rfl hr1 ⟨wr.heap.size + 1, 0, none⟩ 1 1 [.string S, .string K, .string V, .int .i64 nm] rfl rfl (by simpa using four_new (wr.alloc (.cells #[.int .i64 kd, .string K, .string V, .int .i64 nm] 60)) _ _ _ _ _) (fun x hx => by simp at hx; rcases hx with rfl | rfl | rfl | rfl <;> rfl) (by unfold maxLen; omega) (by omega) (by simp; omega) ?_; intro v' w4 hown' hgrow _ _)
            have hb4 : Below w1.heap.size w1 w4 := ((hb.alloc hb.size _).alloc (by simp; omega) _).grown hgrow (by simp; omega) (fun k e => (hr1.lt k e).1)
            exact ⟨⟨k + 1, S, acc ++ [⟨S, K, V, nm⟩], by omega, by go_num, rfl, by simp; omega, hacc, by rw [stsC_snoc, List.length_append]; exact hown', hb4⟩, by simp [intOf]; omega⟩
      · obtain rfl : k = nl := by omega
        have hkI : ¬ ((k : Int) < (k : Int)) := by omega
        have hOk : Hid (filL (.ok l) = .ok acc) := by
          have := hacc.out
          rw [List.drop_of_length_le (by rw [hN.out]; omega)] at this
          have h2 : pf ⟨#[]⟩ [] l = .ok acc := this
          show filL _ = _
          simp only [filL, h2]
        have mr : Mv (fun _ => False) w1 wr := Mv.below hb
        have k2 := k1.mv mr (fun h => h)
        have r0 := k2.c
        have r1 := k2.f
        obtain ⟨ao, n', cap', rfl⟩ := own_slice hown.out
        obtain ⟨w2, hw2⟩ : ∃ w2, wr.setCell ⟨w.heap.size, 0, none⟩ (.slice ao n' cap') = w2 := ⟨_, rfl⟩
        have ms : Mv (fun k => k = w.heap.size) wr w2 := by rw [← hw2]; exact Mv.set1 (E := fun k => k = w.heap.size) rfl _
        have k3 : Cl w.heap.size (.slice ao n' cap') w2 := by rw [← hw2]; exact k2.set _
        have r2 := k3.c
        have hown2 := own_mv hown.out ms (fun g hg e => by have := (hown.out.lt g hg).1; omega)
        have hb2 : Below w.heap.size w w2 := by rw [← hw2]; exact ((hbw1.trans (hb.mono (by omega))).setCell (p := ⟨w.heap.size, 0, none⟩) (by simp) _)
        go_wp2_with (rw [hw2])
        refine bodyPost_ret (v := .tuple #[.agg #[.slice ao n' cap'], .int .i64 0, .int .i64 0]) (by simp [results, Tryd.results8, go_sem, r2]) rfl ?_
        rw [hOk.out]
        exact ⟨_, rfl, own_base hown2 (by omega), hb2⟩
end Go.Proofs.YtmoafagemdnifaaDoor
