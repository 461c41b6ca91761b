import Derived.Test.YtiinhfbfciccnaaDoorYA
import Derived.Test.YtiinhfbfciccnaaDoorYD
import Derived.Test.YtiinhfbfciccnaaDoorYE
/- The contract of unitfile.Parse. -/
namespace Go.Proofs.YtiinhfbfciccnaaDoor
open Go.RowKit Go.Shelf Lin
/-- The settings of lines: sec: the section; or the number of a line ahead of all sections. -/
def pf (sec : ByteArray) (acc : List St) : List Ln → Except Nat (List St)
  | [] => .ok acc
  | x :: r => if x.1 = 1 then pf ⟨x.2.1.toArray⟩ acc r else if sec = ⟨#[]⟩ then .error x.2.2.2 else pf sec (acc ++ [⟨sec, ⟨x.2.1.toArray⟩, ⟨x.2.2.1.toArray⟩, x.2.2.2⟩]) r
abbrev FRes := Except (Nat × Int) (List St)
/-- A unit file of lines. -/
def filL : Res → FRes
  | .error e => .error e
  | .ok l => match pf ⟨#[]⟩ [] l with
    | .ok a => .ok a
    | .error n => .error (n, 60)
/-- What Parse tells. -/
def ParseP (r : FRes) (w : World) (e : Ending) (w' : World) : Prop := match r with
  | .ok l => ∃ v, e = .returned (.tuple #[.agg #[v], .int .i64 0, .int .i64 0]) ∧ w'.ownsRow w.heap.size 44 4 v l.length (stsC l) ∧ Below w.heap.size w w'
  | .error (n, k) => e = .returned (.tuple #[.agg #[.slice none 0 0], .int .i64 n, .int .i64 k]) ∧ Below w.heap.size w w'
theorem pf_sec {sec : ByteArray} {acc : List St} {x : Ln} {r : List Ln} (h : x.1 = 1) : pf sec acc (x :: r) = pf ⟨x.2.1.toArray⟩ acc r := by simp [pf, h]
theorem pf_bad {sec : ByteArray} {acc : List St} {x : Ln} {r : List Ln} (h : x.1 ≠ 1) (h2 : sec = ⟨#[]⟩) : pf sec acc (x :: r) = .error x.2.2.2 := by simp [pf, h, h2]
theorem pf_set {sec : ByteArray} {acc : List St} {x : Ln} {r : List Ln} (h : x.1 ≠ 1) (h2 : sec ≠ ⟨#[]⟩) : pf sec acc (x :: r) = pf sec (acc ++ [⟨sec, ⟨x.2.1.toArray⟩, ⟨x.2.2.1.toArray⟩, x.2.2.2⟩]) r := by simp [pf, h, h2]
theorem own_slice {w : World} {base : Nat} {e : TypeId} {size : Nat} {v : Value} {n : Nat} {xs : List Value} (h : w.ownsRow base e size v n xs) : ∃ ao n' cap, v = .slice ao n' cap := by
  rcases h.2 with ⟨hv, _⟩ | ⟨g, cap, cur, hv, _⟩
  · exact ⟨_, _, _, hv⟩
  · exact ⟨_, _, _, hv⟩
set_option maxRecDepth 100000 in
set_option maxHeartbeats 8000000 in
theorem parse_lines (s : ByteArray) (w : World) (R : Res) (hR : ∀ w, Mx w → Calls Tryd.prog 24 #[.string s] w (LinesP R w)) (hlen : ∀ l, R = .ok l → l.length ≤ 5000) (hne : ∀ n k, R = .error (n, k) → k ≠ 0) (hg : Mx w) : Calls Tryd.prog 8 #[.string s] w (ParseP (filL R) w) := by
  obtain ⟨i0, hinf, hz0, hz1, hz2⟩ := info_parts infoSt
  obtain ⟨W0, hW0⟩ : ∃ W0, w.alloc (.cells #[.slice none 0 0] 25) = W0 := ⟨_, rfl⟩
  have hb0 : Below w.heap.size w W0 := by rw [← hW0]; exact (Below.refl _ w).alloc (Nat.le_refl _) _
  have k0 : Cl w.heap.size (.slice none 0 0) W0 := by rw [← hW0]; exact ⟨cell_at rfl rfl, World.frozen?_alloc_new _ _ _ _⟩
  have hL := hR W0 (hg.below hb0)
  have hs0 : w.heap.size < W0.heap.size := k0.lt
  clear hR hg
  cases R with
  | error e =>
    obtain ⟨n, k⟩ := e
    have hL' : Hid (Calls Tryd.prog 24 #[.string s] W0 fun e w' => e = .returned (.tuple #[.slice none 0 0, .int .i64 n, .int .i64 k]) ∧ Below W0.heap.size W0 w') := hL
    have hk : k ≠ 0 := hne n k rfl
    clear hL hlen hne
    have hkI : (k != 0) = true := by simpa using hk
    have hkJ : (k == 0) = false := by simpa using hk
    go_enter Tryd.func8, Tryd.ntmps8
    go_wp2_with (rw [hW0])
    refine hL'.out.mono ?_
    rintro e w1 ⟨rfl, hb1⟩
    have m1 : Mv (fun _ => False) W0 w1 := Mv.below hb1
    have k1 := k0.mv m1 (fun h => h)
    have r0 := k1.c
    have r1 := k1.f
    obtain ⟨w2, hw2⟩ : ∃ w2, w1.setCell ⟨w.heap.size, 0, none⟩ (.slice none 0 0) = w2 := ⟨_, rfl⟩
    have k2 : Cl w.heap.size (.slice none 0 0) w2 := by rw [← hw2]; exact k1.set _
    have r2 := k2.c
    have hb2 : Below w.heap.size w w2 := by rw [← hw2]; exact ((hb0.trans (hb1.mono (by omega))).setCell (p := ⟨w.heap.size, 0, none⟩) (by simp) _)
    go_wp2_with (rw [hw2])
    refine bodyPost_ret (v := .tuple #[.agg #[.slice none 0 0], .int .i64 n, .int .i64 k]) (by simp [results, Tryd.results8, go_sem, r2]) rfl ?_
    exact ⟨rfl, hb2⟩
  | ok l =>
    have hll := hlen l rfl
    have hL' : Hid (Calls Tryd.prog 24 #[.string s] W0 fun e w' => ∃ v, e = .returned (.tuple #[v, .int .i64 0, .int .i64 0]) ∧ w'.ownsRow W0.heap.size 60 4 v l.length (lnsC l) ∧ Below W0.heap.size W0 w') := hL
    clear hL hlen hne
    obtain ⟨nl, hnl⟩ : ∃ nl, l.length = nl := ⟨_, rfl⟩
    go_enter Tryd.func8, Tryd.ntmps8
    go_wp2_with (rw [hW0])
    refine hL'.out.mono ?_
    rintro e w1 ⟨v, rfl, hown1, hb1⟩
    obtain ⟨a, g, cap, rfl, ha, hat, _⟩ := own_lines hown1
    have hatH : Hid (LnAt w1 g l) := hat
    have m1 : Mv (fun _ => False) W0 w1 := Mv.below hb1
    have k1 := k0.mv m1 (fun h => h)
    have hbw1 : Below w.heap.size w w1 := hb0.trans (hb1.mono (by omega))
    have hk1 : w.heap.size < w1.heap.size := k1.lt
    rw [hnl] at ha hll ⊢
    have hN : Hid (l.length = nl) := hnl
    clear hL' hown1 hat hnl hb1 m1
    go_wp2_with fail
    go_loopw [8, 9, 25] (fun v sc i wr => ∃ (k : Nat) (S : ByteArray) (acc : List St), k ≤ nl ∧ i = .int .i64 k ∧ sc = .string S ∧ acc.length ≤ k ∧ Hid (pf ⟨#[]⟩ [] l = pf S acc (l.drop k)) ∧ Hid (wr.ownsRow w1.heap.size 44 4 v acc.length (stsC acc)) ∧ Below w1.heap.size w1 wr) (fun _ _ i _ => nl - (intOf i).toNat)
    case atStart => exact ⟨0, _, [], by omega, rfl, rfl, by simp, by show _ = _; rw [List.drop_zero], World.ownsRow_nil _ _ _ _, Below.refl _ _⟩
    case round =>
      obtain ⟨k, S, acc, hk, rfl, rfl, hal, hacc, hown, hb⟩ := hrel
      by_cases hlt : k < nl
      · obtain rfl := ha (by omega)
        obtain ⟨x, hx⟩ : ∃ x, l[k]? = some x := ⟨_, List.getElem?_eq_getElem (by rw [hN.out]; exact hlt)⟩
        have hdr : l.drop k = x :: l.drop (k + 1) := by
          obtain ⟨h1, h2⟩ := List.getElem?_eq_some_iff.1 hx
          rw [List.drop_eq_getElem_cons h1, h2]
        have mr : Mv (fun _ => False) w1 wr := Mv.below hb
        obtain ⟨p0, p1, p2, p3⟩ := hatH.out k x hx
        replace p0 := mr.cell (fun h => h) p0
        replace p1 := mr.cell (fun h => h) p1
        replace p2 := mr.cell (fun h => h) p2
        replace p3 := mr.cell (fun h => h) p3
        rw [hdr] at hacc
        obtain ⟨kd, ky, vl, nm⟩ := x
        obtain ⟨K, rfl, _, hKe⟩ := letters ky
        obtain ⟨V, rfl, _, hVe⟩ := letters vl
        simp only [hKe, hVe] at p1 p2
        have hkI : (k : Int) < (nl : Int) := by omega
        have hbr := hb.size
        clear hx hdr
        by_cases hkd : kd = 1
        · subst hkd
          rw [pf_sec rfl] at hacc
          simp only [hKe] at hacc
          clear hKe hVe
          go_wp2_with fail
          exact ⟨⟨k + 1, K, acc, by omega, by go_num, rfl, by omega, hacc, own_below hown.out ((Below.refl _ _).alloc (Nat.le_refl _) _), hb.alloc hb.size _⟩, by simp [intOf]; omega⟩
        · have hkdI : ((kd : Int) == 1) = false := by simp; omega
          by_cases hS : S = ⟨#[]⟩
          · rw [pf_bad hkd hS] at hacc
            have hSe : (S.toList == []) = true := by rw [str_nil, hS]; rfl
            clear hS hKe hVe
            obtain ⟨w2, hw2⟩ : ∃ w2, wr.alloc (.cells #[.int .i64 kd, .string K, .string V, .int .i64 nm] 60) = w2 := ⟨_, rfl⟩
            have m2 : Mv (fun _ => False) wr w2 := by rw [← hw2]; exact Mv.alloc _ _ _
            have q0 : w2.cell? ⟨wr.heap.size, 0, none⟩ = some (.int .i64 kd) := by rw [← hw2]; exact cell_at rfl rfl
            have q3 : w2.cell? ⟨wr.heap.size, 3, none⟩ = some (.int .i64 nm) := by rw [← hw2]; exact cell_at rfl rfl
            have k2 := (k1.mv mr (fun h => h)).mv m2 (fun h => h)
            have r0 := k2.c
            have r1 := k2.f
            obtain ⟨w3, hw3⟩ : ∃ w3, w2.drew.setCell ⟨w.heap.size, 0, none⟩ (.slice none 0 0) = w3 := ⟨_, rfl⟩
            have hne1 : w.heap.size < wr.heap.size := by omega
            have q4 : w3.cell? ⟨wr.heap.size, 3, none⟩ = some (.int .i64 nm) := by
              rw [← hw3, World.cell?_setCell_other _ _ _ _ (fun e => by simp at e)]; exact q3
            have k3 : Cl w.heap.size (.slice none 0 0) w3 := by rw [← hw3]; exact Cl.set (W := w2.drew) ⟨k2.c, k2.f⟩ _
            have r2 := k3.c
            have hb3 : Below w.heap.size w w3 := by
              have h2 : Below w.heap.size w w2 := by rw [← hw2]; exact (hbw1.trans (hb.mono (by omega))).alloc (by omega) _
              rw [← hw3]; exact h2.drew.setCell (p := ⟨w.heap.size, 0, none⟩) (by simp) _
            have hErr : Hid (filL (.ok l) = .error (nm, 60)) := by
              show filL _ = _
              simp only [filL, hacc.out]
            go_wp2_with (first | rw [hw2])
            go_region
            all_goals go_wp2_with fail
            all_goals
              refine bodyPost_ret (v := .tuple #[.agg #[.slice none 0 0], .int .i64 nm, .int .i64 60]) (by simp [results, Tryd.results8, go_sem, r2]) rfl ?_
              rw [hErr.out]
              exact ⟨rfl, hb3⟩
          · rw [pf_set hkd hS] at hacc
            simp only [hKe, hVe] at hacc
            have hSe : (S.toList == []) = false := by rw [str_nil]; simp [hS]
            clear hS hKe hVe
            have hr1 := (hown.out.alloc (.cells #[.int .i64 kd, .string K, .string V, .int .i64 nm] 60)).alloc (.cells #[.string S, .string K, .string V, .int .i64 nm] 44)
            go_wp2_with (at_builtin; refine wpList_append_own_at _ rfl _ _ 23 rfl w1.heap.size 44 i0 (.agg #[.string ⟨#[]⟩, .string ⟨#[]⟩, .string ⟨#[]⟩, .int .i64 0]) 4 56 Tryd.underlying23 hinf hz0 hz1 hz2 rfl (by decide) _ _ _ rfl hr1 ⟨wr.heap.size + 1, 0, none⟩ 1 1 [.string S, .string K, .string V, .int .i64 nm] rfl rfl (by simpa using four_new (wr.alloc (.cells #[.int .i64 kd, .string K, .string V, .int .i64 nm] 60)) _ _ _ _ _) (fun x hx => by simp at hx; rcases hx with rfl | rfl | rfl | rfl <;> rfl) (by unfold maxLen; omega) (by omega) (by simp; omega) ?_; intro v' w4 hown' hgrow _ _)
            have hb4 : Below w1.heap.size w1 w4 := ((hb.alloc hb.size _).alloc (by simp; omega) _).grown hgrow (by simp; omega) (fun k e => (hr1.lt k e).1)
            exact ⟨⟨k + 1, S, acc ++ [⟨S, K, V, nm⟩], by omega, by go_num, rfl, by simp; omega, hacc, by rw [stsC_snoc, List.length_append]; exact hown', hb4⟩, by simp [intOf]; omega⟩
      · obtain rfl : k = nl := by omega
        have hkI : ¬ ((k : Int) < (k : Int)) := by omega
        have hOk : Hid (filL (.ok l) = .ok acc) := by
          have := hacc.out
          rw [List.drop_of_length_le (by rw [hN.out]; omega)] at this
          have h2 : pf ⟨#[]⟩ [] l = .ok acc := this
          show filL _ = _
          simp only [filL, h2]
        have mr : Mv (fun _ => False) w1 wr := Mv.below hb
        have k2 := k1.mv mr (fun h => h)
        have r0 := k2.c
        have r1 := k2.f
        obtain ⟨ao, n', cap', rfl⟩ := own_slice hown.out
        obtain ⟨w2, hw2⟩ : ∃ w2, wr.setCell ⟨w.heap.size, 0, none⟩ (.slice ao n' cap') = w2 := ⟨_, rfl⟩
        have ms : Mv (fun k => k = w.heap.size) wr w2 := by rw [← hw2]; exact Mv.set1 (E := fun k => k = w.heap.size) rfl _
        have k3 : Cl w.heap.size (.slice ao n' cap') w2 := by rw [← hw2]; exact k2.set _
        have r2 := k3.c
        have hown2 := own_mv hown.out ms (fun g hg e => by have := (hown.out.lt g hg).1; omega)
        have hb2 : Below w.heap.size w w2 := by rw [← hw2]; exact ((hbw1.trans (hb.mono (by omega))).setCell (p := ⟨w.heap.size, 0, none⟩) (by simp) _)
        go_wp2_with (rw [hw2])
        refine bodyPost_ret (v := .tuple #[.agg #[.slice ao n' cap'], .int .i64 0, .int .i64 0]) (by simp [results, Tryd.results8, go_sem, r2]) rfl ?_
        rw [hOk.out]
        exact ⟨_, rfl, own_base hown2 (by omega), hb2⟩
end Go.Proofs.YtiinhfbfciccnaaDoor
/- The contract of unitfile.Parse, for every text. -/
namespace Go.Proofs.YtiinhfbfciccnaaDoor
open Go.RowKit Go.Shelf Lin
theorem lnsW_len : ∀ (r : List (Nat × L)) (l : List Ln), lnsW r = .ok l → l.length ≤ r.length
  | [], l, h => by simp [lnsW] at h; subst h; simp
  | (n, t) :: r, l, h => by
    unfold lnsW at h
    split at h
    · cases h
    · split at h
      · cases h
      · split at h
        · rename_i l' hl'
          have := lnsW_len r l' hl'
          cases h; simp; omega
        · cases h
theorem lnsW_err : ∀ (r : List (Nat × L)) (n : Nat) (k : Int), lnsW r = .error (n, k) → k ≠ 0
  | [], n, k, h => by simp [lnsW] at h
  | (m, t) :: r, n, k, h => by
    unfold lnsW at h
    split at h
    · cases h; decide
    · split at h
      · cases h; decide
      · split at h
        · cases h
        · rename_i e he
          cases h
          exact lnsW_err r n k he
theorem lns_len (s : L) (l : List Ln) (h : lns s = .ok l) : l.length ≤ 5000 := by
  unfold lns at h
  split at h
  · cases h
  · have h1 := lnsW_len _ _ h
    have h2 := whl_len (pieces s) 0 0 []
    have h3 := tot_len (pieces s)
    rw [tot_pieces] at h3
    omega
theorem lns_err (s : L) (n : Nat) (k : Int) (h : lns s = .error (n, k)) : k ≠ 0 := by
  unfold lns at h
  split at h
  · cases h; decide
  · exact lnsW_err _ _ _ h
/-- A unit file of a text. -/
def fil (s : L) : FRes := filL (lns s)
theorem fparse_any (s : ByteArray) (w : World) (hg : Mx w) : Calls Tryd.prog 8 #[.string s] w (ParseP (fil s.data.toList) w) :=
  parse_lines s w (lns s.data.toList) (fun w hg => lines_any s w hg) (lns_len _) (lns_err _) hg
end Go.Proofs.YtiinhfbfciccnaaDoor
/- The contract of the reference's Same at two files of the same settings. -/
namespace Go.Proofs.YtiinhfbfciccnaaDoor
open Go.RowKit Go.Shelf
set_option maxRecDepth 100000 in
set_option maxHeartbeats 4000000 in
theorem same_any (v1 v2 : Value) (l : List St) (w : World) (h1 : SlIs (fun _ => False) w v1 l) (h2 : SlIs (fun _ => False) w v2 l) (hl : l.length ≤ 1000000000) :
    Calls Tryd.prog 10 #[.agg #[v1], .agg #[v2]] w fun e w' => e = .returned (.bool true) ∧ Below w.heap.size w w' := by
  obtain ⟨a1, c1, rfl, h1⟩ := h1
  obtain ⟨a2, c2, rfl, h2⟩ := h2
  obtain ⟨n, hn⟩ : ∃ n, l.length = n := ⟨_, rfl⟩
  rw [hn] at h1 h2 hl ⊢
  have hN : Hid (l.length = n) := hn
  obtain ⟨W0, hW0⟩ : ∃ W0, (w.alloc (.cells #[.slice a1 n c1] 25)).alloc (.cells #[.slice a2 n c2] 25) = W0 := ⟨_, rfl⟩
  have m0 : Mv (fun _ => False) w W0 := by rw [← hW0]; exact (Mv.alloc _ _ _).trans' (Mv.alloc _ _ _)
  have hb0 : Below w.heap.size w W0 := m0.toBelow (Nat.le_refl _) (fun _ _ h => h)
  have q1 : W0.cell? ⟨w.heap.size, 0, none⟩ = some (.slice a1 n c1) := by rw [← hW0]; exact (Mv.alloc (fun _ => False) _ _).cell (fun h => h) (cell_at rfl rfl)
  have q2 : W0.cell? ⟨w.heap.size + 1, 0, none⟩ = some (.slice a2 n c2) := by rw [← hW0]; exact cell_at (by simp) rfl
  clear hn
  go_enter Tryd.func10, Tryd.ntmps10
  go_wp2_with (rw [hW0])
  go_loopw [5] (fun i wr => ∃ (k : Nat), k ≤ n ∧ i = .int .i64 k ∧ Below w.heap.size w wr ∧ wr.cell? ⟨w.heap.size, 0, none⟩ = some (.slice a1 n c1) ∧ wr.cell? ⟨w.heap.size + 1, 0, none⟩ = some (.slice a2 n c2)) (fun i _ => n - (intOf i).toNat)
  case atStart => exact ⟨0, by omega, rfl, hb0, q1, q2⟩
  case round =>
    obtain ⟨k, hk, rfl, hb, r1, r2⟩ := hrel
    by_cases hlt : k < n
    · obtain ⟨x, hx⟩ : ∃ x, l[k]? = some x := ⟨_, List.getElem?_eq_getElem (by rw [hN.out]; exact hlt)⟩
      obtain ⟨g1, o1, rfl, _, hs1⟩ := h1 (by omega)
      obtain ⟨g2, o2, rfl, _, hs2⟩ := h2 (by omega)
      have mr : Mv (fun _ => False) w wr := Mv.below hb
      obtain ⟨p0, p1, p2, p3⟩ := (hs1 k x hx).mv mr (fun h => h)
      obtain ⟨s0, s1, s2, s3⟩ := (hs2 k x hx).mv mr (fun h => h)
      have hkI : (k : Int) < (n : Int) := by omega
      clear hx hs1 hs2 h1 h2
      go_wp2_with fail
      go_quiet (fail)
      all_goals go_wp2_with fail
      exact ⟨⟨k + 1, by omega, by go_num, below_drewN hb _, r1, r2⟩, by simp [intOf]; omega⟩
    · obtain rfl : k = n := by omega
      go_wp2_with fail
      go_ret
      exact ⟨rfl, hb⟩
end Go.Proofs.YtiinhfbfciccnaaDoor
/- The contract of the laws' known. -/
namespace Go.Proofs.YtiinhfbfciccnaaDoor
open Go.RowKit Go.Shelf Lin
theorem own_sl {w : World} {base : Nat} {v : Value} {l : List St} (E : Nat → Prop) (hE : ∀ k, base ≤ k → ¬ E k) (h : w.ownsRow base 44 4 v l.length (stsC l)) : SlIs E w v l := by
  rcases h.2 with ⟨hv, h0⟩ | ⟨g, cap, cur, hv, hb, _⟩
  · exact ⟨none, 0, by rw [hv, h0], fun hp => by omega⟩
  · refine ⟨some ⟨g, 0, none⟩, cap, hv, fun _ => ⟨g, 0, rfl, hE g hb, fun j x hj => ?_⟩⟩
    have hjl : j < l.length := (List.getElem?_eq_some_iff.1 hj).1
    subst hv
    have hc : ∀ i, i < 4 → w.cell? ⟨g, j * 4 + i, none⟩ = (stC x)[i]? := fun i hi => (h.cellAt (j * 4 + i) (by omega)).trans (stsC_at l j x i hj hi)
    rw [Nat.zero_add]
    exact ⟨hc 0 (by omega), hc 1 (by omega), hc 2 (by omega), hc 3 (by omega)⟩
def lnsK : L := [91, 83, 93, 10, 65, 61, 49, 10, 65, 61, 10, 65, 61, 50, 10]
def stK (v : Array UInt8) (n : Int) : St := ⟨⟨#[83]⟩, ⟨#[65]⟩, ⟨v⟩, n⟩
theorem filK1 : filL (lns lnsK) = .ok [stK #[49] 2, stK #[] 3, stK #[50] 4] := by kernel_rfl
theorem filK2 : filL (lns [65, 61, 49, 10]) = .error (1, 60) := by kernel_rfl
theorem mrgK : [stK #[50] 4, stK #[] 3, stK #[49] 2].foldl stp ([], []) = ([(⟨#[83]⟩, ⟨#[65]⟩)], [stK #[50] 4]) := by kernel_rfl
theorem parseK1 (w : World) (hg : Mx w) : Calls Tryd.prog 8 #[.string ⟨#[91, 83, 93, 10, 65, 61, 49, 10, 65, 61, 10, 65, 61, 50, 10]⟩] w fun e w' => ∃ v, e = .returned (.tuple #[.agg #[v], .int .i64 0, .int .i64 0]) ∧ w'.ownsRow w.heap.size 44 4 v 3 (stsC [stK #[49] 2, stK #[] 3, stK #[50] 4]) ∧ Below w.heap.size w w' := by
  have h := fparse_any ⟨#[91, 83, 93, 10, 65, 61, 49, 10, 65, 61, 10, 65, 61, 50, 10]⟩ w hg
  rw [show fil (⟨#[91, 83, 93, 10, 65, 61, 49, 10, 65, 61, 10, 65, 61, 50, 10]⟩ : ByteArray).data.toList = _ from filK1] at h
  exact h
theorem parseK2 (w : World) (hg : Mx w) : Calls Tryd.prog 8 #[.string ⟨#[65, 61, 49, 10]⟩] w fun e w' => e = .returned (.tuple #[.agg #[.slice none 0 0], .int .i64 1, .int .i64 60]) ∧ Below w.heap.size w w' := by
  have h := fparse_any ⟨#[65, 61, 49, 10]⟩ w hg
  rw [show fil (⟨#[65, 61, 49, 10]⟩ : ByteArray).data.toList = _ from filK2] at h
  exact h
theorem mergeK (v : Value) (g cap : Nat) (w : World) (hc : w.cell? ⟨g, 0, none⟩ = some v) (hs : SlIs (fun _ => False) w v [stK #[49] 2, stK #[] 3, stK #[50] 4]) :
    Calls Tryd.prog 12 #[.slice (some ⟨g, 0, none⟩) 1 cap] w fun e w' => ∃ v, e = .returned (.agg #[v]) ∧ w'.ownsRow w.heap.size 44 4 v 1 (stsC [stK #[50] 4]) ∧ Below w.heap.size w w' := by
  refine merge_any (some ⟨g, 0, none⟩) 1 cap [(v, [stK #[49] 2, stK #[] 3, stK #[50] 4])] w ⟨_, _, rfl, fun _ => ⟨g, 0, rfl, fun h => h, fun j p hj => ?_⟩, fun p hp => ?_⟩ (by simp) (by simp [flatR, bk]) (fun x hx => ?_) _ mrgK
  · cases j with
    | zero => simp at hj; subst hj; exact hc
    | succ j => simp at hj
  · simp at hp; subst hp; exact hs
  · simp [flatR, bk] at hx
    rcases hx with rfl | rfl | rfl <;> exact ⟨by decide, by decide⟩
set_option maxRecDepth 100000 in
set_option maxHeartbeats 4000000 in
theorem known_any (w : World) (hg : Mx w) : Calls Tryd.prog 7 #[] w fun e w' => e = .returned (.bool true) ∧ Below w.heap.size w w' := by
  go_enter Tryd.func7, Tryd.ntmps7
  go_wp2_with fail
  refine (parseK1 w hg).mono ?_
  rintro e w1 ⟨v1, rfl, ho1, hb1⟩
  obtain ⟨a1, n1, c1, rfl⟩ := own_slice ho1
  have hn1 : n1 = 3 := by
    rcases ho1.2 with ⟨_, h⟩ | ⟨g, cap, cur, h, _⟩
    · cases h
    · cases h; rfl
  subst hn1
  obtain ⟨W1, hW1⟩ : ∃ W1, (w1.alloc (.cells #[.slice a1 3 c1] 25)).alloc (.cells #[.slice a1 3 c1] 25) = W1 := ⟨_, rfl⟩
  have mW : Mv (fun _ => False) w1 W1 := by rw [← hW1]; exact (Mv.alloc _ _ _).trans' (Mv.alloc _ _ _)
  have k1 : Cl w1.heap.size (.slice a1 3 c1) W1 := by
    rw [← hW1]
    exact Cl.mv (E := fun _ => False) (W := w1.alloc (.cells #[.slice a1 3 c1] 25)) ⟨cell_at rfl rfl, World.frozen?_alloc_new _ _ _ _⟩ (Mv.alloc _ _ _) (fun h => h)
  have k2 : W1.cell? ⟨w1.heap.size + 1, 0, none⟩ = some (.slice a1 3 c1) := by rw [← hW1]; exact cell_at (by simp) rfl
  have hb2 : Below w.heap.size w W1 := hb1.trans (mW.toBelow hb1.size (fun _ _ h => h))
  have hsl : SlIs (fun _ => False) W1 (.slice a1 3 c1) [stK #[49] 2, stK #[] 3, stK #[50] 4] := (own_sl _ (fun _ _ h => h) (show w1.ownsRow _ _ _ _ [stK #[49] 2, stK #[] 3, stK #[50] 4].length _ from ho1)).mv mW (Gr.refl _ _)
  have hmg := mergeK (.slice a1 3 c1) (w1.heap.size + 1) 1 W1 k2 hsl
  go_wp2_with (rw [hW1])
  refine hmg.mono ?_
  rintro e w2 ⟨v2, rfl, ho2, hb3⟩
  dsimp only
  have hm2 : Mv (fun _ => False) W1 w2 := Mv.below hb3
  obtain ⟨g2, c2, rfl⟩ := ownsRow_succ (k := 0) ho2
  rw [Nat.zero_add] at ho2 ⊢
  obtain ⟨a2, c2', hv2, hs2⟩ := own_sl (l := [stK #[50] 4]) (fun _ => False) (fun _ _ h => h) ho2
  obtain ⟨g3, o3, ha, -, hs3⟩ := hs2 (by simp)
  subst ha
  simp only [Value.slice.injEq, Option.some.injEq, Addr.mk.injEq] at hv2
  obtain ⟨⟨rfl, rfl, -⟩, -, -⟩ := hv2
  have hx := hs3 0 _ rfl
  obtain ⟨W2, hW2⟩ : ∃ W2, w2.alloc (.cells #[.slice (some ⟨g2, 0, none⟩) 1 c2] 25) = W2 := ⟨_, rfl⟩
  have mW2 : Mv (fun _ => False) w2 W2 := by rw [← hW2]; exact Mv.alloc _ _ _
  have k3 : Cl w2.heap.size (.slice (some ⟨g2, 0, none⟩) 1 c2) W2 := by rw [← hW2]; exact ⟨cell_at rfl rfl, World.frozen?_alloc_new _ _ _ _⟩
  have hb4 : Below w.heap.size w W2 := (hb2.trans (hb3.mono hb2.size)).trans (mW2.toBelow (by have := hb2.size; have := hb3.size; omega) (fun _ _ h => h))
  have k1' := (k1.mv hm2 (fun h => h)).mv mW2 (fun h => h)
  have hx2 := hx.mv mW2 (fun h => h)
  clear hs2 hs3 hx hsl hmg ho1 ho2
  go_wp2_with (rw [hW2])
  refine (parseK2 W2 (hg.below hb4)).mono ?_
  rintro e w3 ⟨rfl, hb5⟩
  have m3 : Mv (fun _ => False) W2 w3 := Mv.below hb5
  obtain ⟨W3, hW3⟩ : ∃ W3, w3.alloc (.cells #[.slice none 0 0] 25) = W3 := ⟨_, rfl⟩
  have m4 : Mv (fun _ => False) w3 W3 := by rw [← hW3]; exact Mv.alloc _ _ _
  have k5 : Cl w3.heap.size (.slice none 0 0) W3 := by rw [← hW3]; exact ⟨cell_at rfl rfl, World.frozen?_alloc_new _ _ _ _⟩
  have y1 := k5.c
  have y2 := k5.f
  obtain ⟨W4, hW4⟩ : ∃ W4, W3.setCell ⟨w3.heap.size, 0, none⟩ (.slice none 0 0) = W4 := ⟨_, rfl⟩
  have m5 : Mv (fun k => k = w3.heap.size) W3 W4 := by rw [← hW4]; exact Mv.set1 (E := fun k => k = w3.heap.size) rfl _
  have s1 := k1'.lt
  have s2 := k3.lt
  have s3 := m3.size
  have s4 : g2 < W2.heap.size := cell_lt hx2.c0
  have hb6 : Below w.heap.size w W4 := ((hb4.trans (hb5.mono hb4.size)).trans (m4.toBelow (by have := hb4.size; have := hb5.size; omega) (fun _ _ h => h))).trans (m5.toBelow (by have := hb4.size; have := hb5.size; have := m4.size; omega) (fun k hk e => by have := hb4.size; have := hb5.size; omega))
  have z1 := (((k1'.mv m3 (fun h => h)).mv m4 (fun h => h)).mv m5 (by omega)).c
  have z2 := (((k3.mv m3 (fun h => h)).mv m4 (fun h => h)).mv m5 (by omega)).c
  have z3 := (((hx2.mv m3 (fun h => h)).mv m4 (fun h => h)).mv m5 (by omega)).c2
  simp only [stK, Nat.zero_mul, Nat.add_zero, Nat.zero_add] at z3
  clear s1 s2 s3 s4
  go_wp2_with (first | rw [hW3] | rw [hW4])
  go_ret
  exact ⟨rfl, hb6⟩
end Go.Proofs.YtiinhfbfciccnaaDoor
