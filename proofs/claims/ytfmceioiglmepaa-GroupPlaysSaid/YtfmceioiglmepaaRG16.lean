/- The reference's Put that puts. -/
import Derived.Test.YtfmceioiglmepaaRG15
import Derived.Test.YtfmceioiglmepaaRG11
import Derived.Test.YtfmceioiglmepaaRZ
namespace Go.Proofs.Ytfmceioiglmepaa
open Go.RowKit Go.Shelf Go.Lib
set_option maxRecDepth 100000 in
set_option maxHeartbeats 1600000 in
theorem rput_go (R : Rt) (a : Int) (s : ByteArray) (w : World) (h : Rs w R) (hs : srtR R.l) (hl : R.l.length ≤ 1000) (hp : ∀ x ∈ R.l, x.ps.length ≤ 1000) (hcp : ∀ x ∈ R.l, capV x.v) (hn : R.ns.length ≤ 1000) (ht : thereR R.l s = true) (ha : 2 ≤ a) (hne : ∀ x, hmR R.l a = some x → x.nm ≠ s) :
    Calls Try.prog 13 #[.pointer (some ⟨R.b, 0, none⟩), .int .i64 a, .string s] w fun e w' => e = .returned (.int .i64 0) ∧ ∃ R' i x v, GoneTo R a R' ∧ R'.l[i]? = some x ∧ x.nm = s ∧ capV v ∧ RGoes R w { R' with l := R'.l.set i ⟨x.nm, x.ps.take (kP a x.ps) ++ a :: x.ps.drop (kP a x.ps), v⟩ } w' := by
  have hat := hidP (rat_any R s w h hl)
  rw [ht] at hat
  have ha2 : ¬ a < 2 := by omega
  have hH := hidP h
  have hOf := hidP (fun w1 (h1 : Rs w1 R) => rof_any R a w1 h1 hl hp)
  have hGo := hidP (fun w1 (h1 : Rs w1 R) => rgone_any R a w1 h1 hs hl hp hn)
  obtain ⟨x0, hx0, hn0⟩ := thereR_some ht
  obtain ⟨i, hi⟩ : ∃ i, atP R.l s = i := ⟨_, rfl⟩
  rw [hi] at hx0 hat
  have hil : i < R.l.length := (List.getElem?_eq_some_iff.1 hx0).1
  obtain ⟨n, hnn⟩ : ∃ n, R.l.length = n := ⟨_, rfl⟩
  have hiI : (i : Int) < (n : Int) := by omega
  have hAt := hidP (fun (R' : Rt) w1 (h1 : Rs w1 R') (hg : GoneTo R a R') (hb : R'.b = R.b) => (by
    have q := rat_any R' s w1 h1 (by rw [hg.len]; exact hl)
    obtain ⟨z, hz, hzn, _⟩ := hg.at hx0
    have hzs : z.nm = s := hzn.trans hn0
    have q1 := at_idx (hg.srt hs) hz
    have q2 := there_idx (hg.srt hs) hz
    rw [hzs] at q1 q2
    rw [q1, q2, hb] at q
    exact q : Calls Try.prog 25 #[.pointer (some ⟨R.b, 0, none⟩), .string s] w1 fun e w' => e = .returned (.tuple #[.int .i64 i, .bool true]) ∧ Below w1.heap.size w1 w'))
  have hgt0 := hidP (fun (R' : Rt) (hg : GoneTo R a R') => (by
    obtain ⟨z, hz, hzn, hzl⟩ := hg.at hx0
    exact ⟨z, hz, hzn.trans hn0, Nat.le_trans hzl (hp x0 (List.mem_of_getElem? hx0)), hg.cap hcp z (List.mem_of_getElem? hz), by rw [hg.len, hnn]⟩ : ∃ z, R'.l[i]? = some z ∧ z.nm = s ∧ z.ps.length ≤ 1000 ∧ capV z.v ∧ R'.l.length = n))
  rw [hnn] at hl
  cases hh : hmR R.l a with
  | none =>
    rw [hh] at hOf
    simp only [Option.map_none, Option.getD_none, Option.isSome_none] at hOf
    clear h hs hp hcp hn ht ha hne hx0 hn0 hi hil hnn hh
    go_enter Try.func13, Try.ntmps13
    go_wp2_with fail
    refine hat.out.mono ?_
    rintro e w1 ⟨rfl, hb1⟩
    have hO := hidP (hOf.out w1 (hH.out.below hb1))
    have hG0 := hidP (RGoes.below hH.out hb1)
    have hGo1 := hidP (hGo.out w1 (hH.out.below hb1))
    clear hat hOf hb1 hGo
    go_wp2_with fail
    refine hO.out.mono ?_
    rintro e w2 ⟨rfl, rfl⟩
    clear hO
    go_wp2_with fail
    refine hGo1.out.mono ?_
    rintro e w3 ⟨b, R', rfl, hgt, hg3⟩
    have hA := hidP (hAt.out R' w3 hg3.r hgt hg3.b)
    obtain ⟨x, hx, hxs, hxl, hxc, hlen⟩ := hgt0.out R' hgt
    have hgtH := hidP hgt
    have hg3H := hidP hg3
    have hxH := hidP hx
    have hxsH := hidP hxs
    have hlenH := hidP hlen
    clear hAt hGo1 hgt0 hgt hg3 hx hxs hlen
    go_wp2_with fail
    refine hA.out.mono ?_
    rintro e w4 ⟨rfl, hb4⟩
    have h4 := hidP (hg3H.out.r.below hb4)
    have hG4 := hidP (hG0.out.trans (hg3H.out.trans (RGoes.below hg3H.out.r hb4)))
    obtain ⟨g, cap, e1, _, e3⟩ := h4.out.at hxH.out
    have c0 := h4.out.c0
    rw [hg3H.out.b, e1, hlenH.out] at c0
    have hIR := (h4.out.ps x (List.mem_of_getElem? hxH.out)).1
    obtain ⟨m, hm⟩ : ∃ m, x.ps.length = m := ⟨_, rfl⟩
    obtain ⟨q, d, hv, hq⟩ := (id hIR : IR w4 x.v x.ps)
    rw [hv, hm] at e3
    rw [hv] at hIR hxc
    rw [hm] at hxl hxc
    have hmd : m ≤ d ∧ d ≤ maxLen := hxc
    have hdm : (d : Int) ≤ 9223372036854775807 := by have := hmd.2; unfold maxLen at this; omega
    have f3 := own_froz (j := i * 2 + 1) h4.out.row (by rw [e1]; rfl : _ = some g)
    have hIRH := hidP hIR
    have hmH := hidP hm
    have hqH := hidP hq
    have e1H := hidP e1
    clear hA hG0 hb4 hIR hv hm hq e1 hxc hg3H
    go_wp2_with fail
    go_loop [13] (fun k => ∃ j : Nat, j ≤ m ∧ k = .int .i64 j ∧ Hid (∀ t y, t < j → x.ps[t]? = some y → y < a)) (fun k => m - (intOf k).toNat)
    case atStart => exact ⟨0, by omega, rfl, fun t y h => by omega⟩
    case round =>
      obtain ⟨j, hj, rfl, hI⟩ := hrel
      by_cases hlt : j < m
      · have hltI : (j : Int) < (m : Int) := by omega
        obtain ⟨y, hy⟩ : ∃ y, x.ps[j]? = some y := ⟨_, List.getElem?_eq_getElem (by have := hmH.out; omega)⟩
        rcases hqH.out with hq | ⟨g2, o2, rfl, hc⟩
        · rw [hq] at hy; simp at hy
        · have cy := hc j y hy
          have hyH := hidP hy
          clear hy hc
          by_cases hya : y < a
          · go_wp2_with fail
            exact ⟨⟨j + 1, by omega, by go_num, fun t z h1 h2 => by
              by_cases e : t = j
              · subst e
                rw [hyH.out] at h2
                cases h2
                exact hya
              · exact hI.out t z (by omega) h2⟩, by simp [intOf]; omega⟩
          · have hk : Hid (kP a x.ps = j) := kP_eq (by have := hmH.out; omega) hI.out (fun z hz => by rw [hyH.out] at hz; cases hz; exact hya)
            have hjd : j ≤ d := by omega
            have hjc : ¬ d = j := by omega
            obtain ⟨v5, W5, hrun5, ⟨p5, n5, c5, hv5⟩, m5, v6, W6, hrun6, ⟨p6, n6, c6, hv6⟩, m6, hl7⟩ := put_runs (a := a) (j := j) hIRH.out (by rw [hmH.out]; exact hj) (by rw [hmH.out]; exact hxl)
            have hIR6 : IR W6 (.slice (some ⟨g2, o2, none⟩) x.ps.length d) x.ps := hIRH.out.mv m6 (fun _ _ h => h)
            obtain ⟨v7, W7, hrun7, ⟨p7, n7, c7, hv7⟩, m7, ir7, cap7, bl7⟩ := hl7 (.slice (some ⟨g2, o2 + j, none⟩) (m - j) (d - j)) (by have := hIR6.drop (j := j) (c := d - j) (.inr rfl); rw [hmH.out] at this; exact this)
            subst hv5
            subst hv6
            subst hv7
            have hfin : Hid (RGoes R w { R' with l := R'.l.set i ⟨x.nm, x.ps.take (kP a x.ps) ++ a :: x.ps.drop (kP a x.ps), .slice p7 n7 c7⟩ } (W7.setCell ⟨g, i * 2 + 1, none⟩ (.slice p7 n7 c7))) := by
              show RGoes _ _ _ _
              rw [hk.out]
              exact hG4.out.trans (h4.out.turnP hxH.out e1H.out m7 ir7 bl7)
            have cap7H := hidP cap7
            have c05 : W5.drew.cell? ⟨R.b, 0, none⟩ = some (.slice (some ⟨g, 0, none⟩) n cap) := m5.cell (a := ⟨R.b, 0, none⟩) (fun h => h) c0
            have e35 : W5.drew.cell? ⟨g, i * 2 + 1, none⟩ = some (.slice (some ⟨g2, o2, none⟩) m d) := m5.cell (a := ⟨g, i * 2 + 1, none⟩) (fun h => h) e3
            have hcm : W5.drew.alloc (.cells #[.int .i64 a] 3) = (W5.alloc (.cells #[.int .i64 a] 3)).drew := rfl
            rw [hcm] at hrun6
            clear hcm
            have mA : Mv (fun _ => False) W5 (W5.alloc (.cells #[.int .i64 a] 3)) := Mv.below ((Below.refl _ _).alloc (Nat.le_refl _) _)
            have c0a := mA.cell (a := ⟨R.b, 0, none⟩) (fun h => h) (m5.cell (a := ⟨R.b, 0, none⟩) (fun h => h) c0)
            have e3a := mA.cell (a := ⟨g, i * 2 + 1, none⟩) (fun h => h) (m5.cell (a := ⟨g, i * 2 + 1, none⟩) (fun h => h) e3)
            have c06 := m6.cell (a := ⟨R.b, 0, none⟩) (fun h => h) c0
            have e36 := m6.cell (a := ⟨g, i * 2 + 1, none⟩) (fun h => h) e3
            have c07 := m7.cell (a := ⟨R.b, 0, none⟩) (fun h => h) c0
            have e37 := m7.cell (a := ⟨g, i * 2 + 1, none⟩) (fun h => h) e3
            have f37 := (m7.froz (a := ⟨g, i * 2 + 1, none⟩) (fun h => h) (cell_lt e3)).trans f3
            have l1 : (j : Int) ≤ (m : Int) := by omega
            have l0 : (0 : Int) ≤ (j : Int) := by omega
            have hjdI : (j : Int) ≤ (d : Int) := by omega
            clear m5 m6 m7 hl7 hIR6 ir7 cap7 bl7 mA hI
            go_wp2_with (at_builtin; refine wpList_append_run rfl _ _ 43 rfl _ _ _ _ rfl rfl hrun5 ?_)
            refine Zs.region (S := fun y => y.cell? ⟨R.b, 0, none⟩ = some (.slice (some ⟨g, 0, none⟩) n cap) ∧ y.cell? ⟨g, i * 2 + 1, none⟩ = some (.slice (some ⟨g2, o2, none⟩) m d)) 22 (by kernel_rfl) ?_
            have hHeld := And.intro c05 e35
            refine Zs.take (i := 0) (oi := ⟨some 87, _, _, _, _, _⟩) (v := ?v0) rfl (by kernel_rfl) (by kernel_rfl) (by kernel_rfl) (by decide) (by kernel_rfl) (by kernel_rfl) (fun _ _ _ h => h) (Or.inl ⟨by rfl, ?hy0⟩) (by assumption) ?_
            case hy0 => (intro w hSw; (try dsimp only at hSw); go_simp; try with_reducible rfl)
            simp only [Act.put, List.setIfInBounds_toArray, List.set_cons_zero, List.set_cons_succ]
            refine Zs.take (i := 1) (oi := ⟨some 88, _, _, _, _, _⟩) (v := ?v1) rfl (by kernel_rfl) (by kernel_rfl) (by kernel_rfl) (by decide) (by kernel_rfl) (by kernel_rfl) (fun _ _ _ h => h) (Or.inl ⟨by rfl, ?hy1⟩) (by assumption) ?_
            case hy1 => (intro w hSw; (try dsimp only at hSw); go_simp; try with_reducible rfl)
            simp only [Act.put, List.setIfInBounds_toArray, List.set_cons_zero, List.set_cons_succ]
            refine Zs.take (i := 2) (oi := ⟨some 89, _, _, _, _, _⟩) (v := ?v2) rfl (by kernel_rfl) (by kernel_rfl) (by kernel_rfl) (by decide) (by kernel_rfl) (by kernel_rfl) (fun _ _ _ h => h) (Or.inl ⟨by rfl, ?hy2⟩) (by assumption) ?_
            case hy2 => (intro w hSw; (try dsimp only at hSw); go_simp; try with_reducible rfl)
            simp only [Act.put, List.setIfInBounds_toArray, List.set_cons_zero, List.set_cons_succ]
            refine Zs.take (i := 3) (oi := ⟨some 90, _, _, _, _, _⟩) (v := ?v3) rfl (by kernel_rfl) (by kernel_rfl) (by kernel_rfl) (by decide) (by kernel_rfl) (by kernel_rfl) (fun _ _ _ h => h) (Or.inl ⟨by rfl, ?hy3⟩) (by assumption) ?_
            case hy3 => (intro w hSw; (try dsimp only at hSw); go_simp; try with_reducible rfl)
            simp only [Act.put, List.setIfInBounds_toArray, List.set_cons_zero, List.set_cons_succ]
            refine Zs.take (i := 4) (oi := ⟨some 91, _, _, _, _, _⟩) (v := ?v4) rfl (by kernel_rfl) (by kernel_rfl) (by kernel_rfl) (by decide) (by kernel_rfl) (by kernel_rfl) (fun _ _ _ h => h) (Or.inl ⟨by rfl, ?hy4⟩) (by assumption) ?_
            case hy4 => (intro w hSw; (try dsimp only at hSw); go_simp; try with_reducible rfl)
            simp only [Act.put, List.setIfInBounds_toArray, List.set_cons_zero, List.set_cons_succ]
            refine Zs.take (i := 5) (oi := ⟨some 92, _, _, _, _, _⟩) (v := ?v5) rfl (by kernel_rfl) (by kernel_rfl) (by kernel_rfl) (by decide) (by kernel_rfl) (by kernel_rfl) (fun _ _ _ h => h) (Or.inl ⟨by rfl, ?hy5⟩) (by assumption) ?_
            case hy5 => (intro w hSw; (try dsimp only at hSw); go_simp; try with_reducible rfl)
            simp only [Act.put, List.setIfInBounds_toArray, List.set_cons_zero, List.set_cons_succ]
            refine Zs.take (i := 6) (oi := ⟨some 93, _, _, _, _, _⟩) (v := ?v6) rfl (by kernel_rfl) (by kernel_rfl) (by kernel_rfl) (by decide) (by kernel_rfl) (by kernel_rfl) (fun _ _ _ h => h) (Or.inl ⟨by rfl, ?hy6⟩) (by assumption) ?_
            case hy6 => (intro w hSw; (try dsimp only at hSw); go_simp; try with_reducible rfl)
            simp only [Act.put, List.setIfInBounds_toArray, List.set_cons_zero, List.set_cons_succ]
            refine Zs.take (i := 9) (oi := ⟨some 96, _, _, _, _, _⟩) (v := ?v9) rfl (by kernel_rfl) (by kernel_rfl) (by kernel_rfl) (by decide) (by kernel_rfl) (by kernel_rfl) (fun _ _ _ h => h) (Or.inl ⟨by rfl, ?hy9⟩) (by assumption) ?_
            case hy9 => (intro w hSw; (try dsimp only at hSw); go_simp; try with_reducible rfl)
            simp only [Act.put, List.setIfInBounds_toArray, List.set_cons_zero, List.set_cons_succ]
            refine Zs.take (i := 10) (oi := ⟨some 97, _, _, _, _, _⟩) (v := ?v10) rfl (by kernel_rfl) (by kernel_rfl) (by kernel_rfl) (by decide) (by kernel_rfl) (by kernel_rfl) (fun _ _ _ h => h) (Or.inl ⟨by rfl, ?hy10⟩) (by assumption) ?_
            case hy10 => (intro w hSw; (try dsimp only at hSw); go_simp; try with_reducible rfl)
            simp only [Act.put, List.setIfInBounds_toArray, List.set_cons_zero, List.set_cons_succ]
            refine Zs.take (i := 11) (oi := ⟨some 98, _, _, _, _, _⟩) (v := ?v11) rfl (by kernel_rfl) (by kernel_rfl) (by kernel_rfl) (by decide) (by kernel_rfl) (by kernel_rfl) (fun _ _ _ h => h) (Or.inl ⟨by rfl, ?hy11⟩) (by assumption) ?_
            case hy11 => (intro w hSw; (try dsimp only at hSw); go_simp; try with_reducible rfl)
            simp only [Act.put, List.setIfInBounds_toArray, List.set_cons_zero, List.set_cons_succ]
            refine Zs.take (i := 12) (oi := ⟨some 99, _, _, _, _, _⟩) (v := ?v12) rfl (by kernel_rfl) (by kernel_rfl) (by kernel_rfl) (by decide) (by kernel_rfl) (by kernel_rfl) (fun _ _ _ h => h) (Or.inl ⟨by rfl, ?hy12⟩) (by assumption) ?_
            case hy12 => (intro w hSw; (try dsimp only at hSw); go_simp; try with_reducible rfl)
            simp only [Act.put, List.setIfInBounds_toArray, List.set_cons_zero, List.set_cons_succ]
            refine Zs.take (i := 13) (oi := ⟨some 100, _, _, _, _, _⟩) (v := ?v13) rfl (by kernel_rfl) (by kernel_rfl) (by kernel_rfl) (by decide) (by kernel_rfl) (by kernel_rfl) (fun _ _ _ h => h) (Or.inl ⟨by rfl, ?hy13⟩) (by assumption) ?_
            case hy13 => (intro w hSw; (try dsimp only at hSw); go_simp; try with_reducible rfl)
            simp only [Act.put, List.setIfInBounds_toArray, List.set_cons_zero, List.set_cons_succ]
            refine Zs.take (i := 14) (oi := ⟨some 101, _, _, _, _, _⟩) (v := ?v14) rfl (by kernel_rfl) (by kernel_rfl) (by kernel_rfl) (by decide) (by kernel_rfl) (by kernel_rfl) (fun _ _ _ h => h) (Or.inl ⟨by rfl, ?hy14⟩) (by assumption) ?_
            case hy14 => (intro w hSw; (try dsimp only at hSw); go_simp; try with_reducible rfl)
            simp only [Act.put, List.setIfInBounds_toArray, List.set_cons_zero, List.set_cons_succ]
            refine Zs.take (i := 15) (oi := ⟨some 102, _, _, _, _, _⟩) (v := ?v15) rfl (by kernel_rfl) (by kernel_rfl) (by kernel_rfl) (by decide) (by kernel_rfl) (by kernel_rfl) (fun _ _ _ h => h) (Or.inl ⟨by rfl, ?hy15⟩) (by assumption) ?_
            case hy15 => (intro w hSw; (try dsimp only at hSw); go_simp; try with_reducible rfl)
            simp only [Act.put, List.setIfInBounds_toArray, List.set_cons_zero, List.set_cons_succ]
            refine Zs.take (i := 16) (oi := ⟨some 103, _, _, _, _, _⟩) (v := .slice (some ⟨g2, o2, none⟩) m d) rfl (by kernel_rfl) (by kernel_rfl) (by kernel_rfl) (by decide) (by kernel_rfl) (by kernel_rfl) (fun _ _ _ h => h) (Or.inl ⟨by rfl, ?hy16⟩) (by assumption) ?_
            case hy16 => (intro w hSw; (try dsimp only at hSw); go_simp; try with_reducible rfl)
            simp only [Act.put, List.setIfInBounds_toArray, List.set_cons_zero, List.set_cons_succ]
            refine Zs.take (i := 17) (oi := ⟨some 104, _, _, _, _, _⟩) (v := ?v17) rfl (by kernel_rfl) (by kernel_rfl) (by kernel_rfl) (by decide) (by kernel_rfl) (by kernel_rfl) (fun _ _ _ h => h) (Or.inl ⟨by rfl, ?hy17⟩) (by assumption) ?_
            case hy17 => (intro w hSw; (try dsimp only at hSw); go_simp; try with_reducible rfl)
            simp only [Act.put, List.setIfInBounds_toArray, List.set_cons_zero, List.set_cons_succ]
            refine Zs.take (i := 18) (oi := ⟨some 105, _, _, _, _, _⟩) (v := .slice (some ⟨g2, o2 + j, none⟩) (m - j) (d - j)) rfl (by kernel_rfl) (by kernel_rfl) (by kernel_rfl) (by decide) (by kernel_rfl) (by kernel_rfl) (fun _ _ _ h => h) (Or.inl ⟨by rfl, ?hy18⟩) (by assumption) ?_
            case hy18 => (intro w hSw; (try dsimp only at hSw); go_simp; try with_reducible rfl)
            simp only [Act.put, List.setIfInBounds_toArray, List.set_cons_zero, List.set_cons_succ]
            refine Zs.one (i := 7) (oi := ⟨some 94, _, _, _, _, _⟩) (by kernel_rfl) rfl (fun K hK => ?_)
            go_simp
            refine hK.out _ _ (fun _ => ⟨c0a, e3a⟩) ?_
            clear hK K
            try simp only [Act.put, List.setIfInBounds_toArray, List.set_cons_zero, List.set_cons_succ]
            refine Zs.one (i := 8) (oi := ⟨some 95, _, _, _, _, _⟩) (by kernel_rfl) rfl (fun K hK => ?_)
            refine step_append_run rfl (.tmp 92) (.tmp 94) 43 rfl _ _ _ _ rfl rfl hrun6 ?_
            refine hK.out _ _ (fun _ => ⟨c06, e36⟩) ?_
            clear hK K
            try simp only [Act.put, List.setIfInBounds_toArray, List.set_cons_zero, List.set_cons_succ]
            refine Zs.one (i := 19) (oi := ⟨some 106, _, _, _, _, _⟩) (by kernel_rfl) rfl (fun K hK => ?_)
            refine step_append_run rfl (.tmp 95) (.tmp 105) 43 rfl _ _ _ _ rfl rfl hrun7 ?_
            have hHeld7 := And.intro c07 e37
            refine hK.out _ _ (fun _ => ⟨c07, e37⟩) ?_
            clear hK K
            try simp only [Act.put, List.setIfInBounds_toArray, List.set_cons_zero, List.set_cons_succ]
            refine Zs.pure (i := 20) (oi := ⟨some 107, _, _, _, _, _⟩) (v := ?v20) rfl (by kernel_rfl) (by kernel_rfl) (by kernel_rfl) (by decide) (fun _ _ _ h => h) (Or.inl ⟨by rfl, ?hy20⟩) (by assumption) ?_
            case hy20 => (intro w hSw; (try dsimp only at hSw); go_simp; try with_reducible rfl)
            simp only [Act.put, List.setIfInBounds_toArray, List.set_cons_zero, List.set_cons_succ]
            refine Zs.take (i := 21) (oi := ⟨some 108, _, _, _, _, _⟩) (v := ?v21) rfl (by kernel_rfl) (by kernel_rfl) (by kernel_rfl) (by decide) (by kernel_rfl) (by kernel_rfl) (fun _ _ _ h => h) (Or.inl ⟨by rfl, ?hy21⟩) (by assumption) ?_
            case hy21 => (intro w hSw; (try dsimp only at hSw); go_simp; try with_reducible rfl)
            simp only [Act.put, List.setIfInBounds_toArray, List.set_cons_zero, List.set_cons_succ]
            refine Zs.one (i := 22) (oi := ⟨none, _, _, _, _, _⟩) (by kernel_rfl) rfl (fun K hK => ?_)
            go_simp
            refine hK.out _ _ (fun q => absurd q (by decide)) ?_
            clear hK K
            refine Zs.done (by kernel_rfl) ?_ _
            go_wp2_with fail
            go_ret
            exact ⟨rfl, R', i, x, _, hgtH.out, hxH.out, hxsH.out, cap7H.out, hfin.out⟩
      · have hge : ¬ (j : Int) < (m : Int) := by omega
        have hk : Hid (kP a x.ps = j) := kP_eq (by have := hmH.out; omega) hI.out (fun z hz => by rw [List.getElem?_eq_none (by have := hmH.out; omega)] at hz; cases hz)
        have hjm := hidP (by omega : j = m)
        have hjd : j ≤ d := by omega
        obtain ⟨p8, hp8⟩ : ∃ p8, (if d = j then q else Option.map (fun x => x.add j) q) = p8 := ⟨_, rfl⟩
        have hq0 : (if d = 0 then q else Option.map (fun x => x.add 0) q) = q := by
          split
          · rfl
          · cases q <;> rfl
        obtain ⟨v5, W5, hrun5, ⟨p5, n5, c5, hv5⟩, m5, v6, W6, hrun6, ⟨p6, n6, c6, hv6⟩, m6, hl7⟩ := put_runs (a := a) (j := j) hIRH.out (by rw [hmH.out]; exact hj) (by rw [hmH.out]; exact hxl)
        obtain ⟨v7, W7, hrun7, ⟨p7, n7, c7, hv7⟩, m7, ir7, cap7, bl7⟩ := hl7 (.slice p8 (m - j) (d - j)) (by
          have e0 : x.ps.drop j = [] := List.drop_eq_nil_of_le (by have := hmH.out; have := hjm.out; omega)
          rw [e0]
          exact ⟨p8, d - j, by have := hjm.out; rw [show m - j = 0 by omega]; rfl, .inl rfl⟩)
        subst hv5
        subst hv6
        subst hv7
        have hfin : Hid (RGoes R w { R' with l := R'.l.set i ⟨x.nm, x.ps.take (kP a x.ps) ++ a :: x.ps.drop (kP a x.ps), .slice p7 n7 c7⟩ } (W7.setCell ⟨g, i * 2 + 1, none⟩ (.slice p7 n7 c7))) := by
          show RGoes _ _ _ _
          rw [hk.out]
          exact hG4.out.trans (h4.out.turnP hxH.out e1H.out m7 ir7 bl7)
        have cap7H := hidP cap7
        have c05 : W5.drew.cell? ⟨R.b, 0, none⟩ = some (.slice (some ⟨g, 0, none⟩) n cap) := m5.cell (a := ⟨R.b, 0, none⟩) (fun h => h) c0
        have e35 : W5.drew.cell? ⟨g, i * 2 + 1, none⟩ = some (.slice q m d) := m5.cell (a := ⟨g, i * 2 + 1, none⟩) (fun h => h) e3
        have hcm : W5.drew.alloc (.cells #[.int .i64 a] 3) = (W5.alloc (.cells #[.int .i64 a] 3)).drew := rfl
        rw [hcm] at hrun6
        clear hcm
        have mA : Mv (fun _ => False) W5 (W5.alloc (.cells #[.int .i64 a] 3)) := Mv.below ((Below.refl _ _).alloc (Nat.le_refl _) _)
        have c0a := mA.cell (a := ⟨R.b, 0, none⟩) (fun h => h) (m5.cell (a := ⟨R.b, 0, none⟩) (fun h => h) c0)
        have e3a := mA.cell (a := ⟨g, i * 2 + 1, none⟩) (fun h => h) (m5.cell (a := ⟨g, i * 2 + 1, none⟩) (fun h => h) e3)
        have c06 := m6.cell (a := ⟨R.b, 0, none⟩) (fun h => h) c0
        have e36 := m6.cell (a := ⟨g, i * 2 + 1, none⟩) (fun h => h) e3
        have c07 := m7.cell (a := ⟨R.b, 0, none⟩) (fun h => h) c0
        have e37 := m7.cell (a := ⟨g, i * 2 + 1, none⟩) (fun h => h) e3
        have f37 := (m7.froz (a := ⟨g, i * 2 + 1, none⟩) (fun h => h) (cell_lt e3)).trans f3
        have l1 : (j : Int) ≤ (m : Int) := by omega
        have l0 : (0 : Int) ≤ (j : Int) := by omega
        have hjdI : (j : Int) ≤ (d : Int) := by omega
        clear m5 m6 m7 hl7 ir7 cap7 bl7 mA hI
        go_wp2_with (at_builtin; refine wpList_append_run rfl _ _ 43 rfl _ _ _ _ rfl rfl hrun5 ?_)
        refine Zs.region (S := fun y => y.cell? ⟨R.b, 0, none⟩ = some (.slice (some ⟨g, 0, none⟩) n cap) ∧ y.cell? ⟨g, i * 2 + 1, none⟩ = some (.slice q m d)) 22 (by kernel_rfl) ?_
        have hHeld := And.intro c05 e35
        refine Zs.take (i := 0) (oi := ⟨some 87, _, _, _, _, _⟩) (v := ?u0) rfl (by kernel_rfl) (by kernel_rfl) (by kernel_rfl) (by decide) (by kernel_rfl) (by kernel_rfl) (fun _ _ _ h => h) (Or.inl ⟨by rfl, ?hz0⟩) (by assumption) ?_
        case hz0 => (intro w hSw; (try dsimp only at hSw); go_simp; try with_reducible rfl)
        simp only [Act.put, List.setIfInBounds_toArray, List.set_cons_zero, List.set_cons_succ]
        refine Zs.take (i := 1) (oi := ⟨some 88, _, _, _, _, _⟩) (v := ?u1) rfl (by kernel_rfl) (by kernel_rfl) (by kernel_rfl) (by decide) (by kernel_rfl) (by kernel_rfl) (fun _ _ _ h => h) (Or.inl ⟨by rfl, ?hz1⟩) (by assumption) ?_
        case hz1 => (intro w hSw; (try dsimp only at hSw); go_simp; try with_reducible rfl)
        simp only [Act.put, List.setIfInBounds_toArray, List.set_cons_zero, List.set_cons_succ]
        refine Zs.take (i := 2) (oi := ⟨some 89, _, _, _, _, _⟩) (v := ?u2) rfl (by kernel_rfl) (by kernel_rfl) (by kernel_rfl) (by decide) (by kernel_rfl) (by kernel_rfl) (fun _ _ _ h => h) (Or.inl ⟨by rfl, ?hz2⟩) (by assumption) ?_
        case hz2 => (intro w hSw; (try dsimp only at hSw); go_simp; try with_reducible rfl)
        simp only [Act.put, List.setIfInBounds_toArray, List.set_cons_zero, List.set_cons_succ]
        refine Zs.take (i := 3) (oi := ⟨some 90, _, _, _, _, _⟩) (v := ?u3) rfl (by kernel_rfl) (by kernel_rfl) (by kernel_rfl) (by decide) (by kernel_rfl) (by kernel_rfl) (fun _ _ _ h => h) (Or.inl ⟨by rfl, ?hz3⟩) (by assumption) ?_
        case hz3 => (intro w hSw; (try dsimp only at hSw); go_simp; try with_reducible rfl)
        simp only [Act.put, List.setIfInBounds_toArray, List.set_cons_zero, List.set_cons_succ]
        refine Zs.take (i := 4) (oi := ⟨some 91, _, _, _, _, _⟩) (v := ?u4) rfl (by kernel_rfl) (by kernel_rfl) (by kernel_rfl) (by decide) (by kernel_rfl) (by kernel_rfl) (fun _ _ _ h => h) (Or.inl ⟨by rfl, ?hz4⟩) (by assumption) ?_
        case hz4 => (intro w hSw; (try dsimp only at hSw); go_simp; try with_reducible rfl)
        simp only [Act.put, List.setIfInBounds_toArray, List.set_cons_zero, List.set_cons_succ]
        refine Zs.take (i := 5) (oi := ⟨some 92, _, _, _, _, _⟩) (v := ?u5) rfl (by kernel_rfl) (by kernel_rfl) (by kernel_rfl) (by decide) (by kernel_rfl) (by kernel_rfl) (fun _ _ _ h => h) (Or.inl ⟨by rfl, ?hz5⟩) (by assumption) ?_
        case hz5 => (intro w hSw; (try dsimp only at hSw); go_simp; try with_reducible rfl)
        simp only [Act.put, List.setIfInBounds_toArray, List.set_cons_zero, List.set_cons_succ]
        refine Zs.take (i := 6) (oi := ⟨some 93, _, _, _, _, _⟩) (v := ?u6) rfl (by kernel_rfl) (by kernel_rfl) (by kernel_rfl) (by decide) (by kernel_rfl) (by kernel_rfl) (fun _ _ _ h => h) (Or.inl ⟨by rfl, ?hz6⟩) (by assumption) ?_
        case hz6 => (intro w hSw; (try dsimp only at hSw); go_simp; try with_reducible rfl)
        simp only [Act.put, List.setIfInBounds_toArray, List.set_cons_zero, List.set_cons_succ]
        refine Zs.take (i := 9) (oi := ⟨some 96, _, _, _, _, _⟩) (v := ?u9) rfl (by kernel_rfl) (by kernel_rfl) (by kernel_rfl) (by decide) (by kernel_rfl) (by kernel_rfl) (fun _ _ _ h => h) (Or.inl ⟨by rfl, ?hz9⟩) (by assumption) ?_
        case hz9 => (intro w hSw; (try dsimp only at hSw); go_simp; try with_reducible rfl)
        simp only [Act.put, List.setIfInBounds_toArray, List.set_cons_zero, List.set_cons_succ]
        refine Zs.take (i := 10) (oi := ⟨some 97, _, _, _, _, _⟩) (v := ?u10) rfl (by kernel_rfl) (by kernel_rfl) (by kernel_rfl) (by decide) (by kernel_rfl) (by kernel_rfl) (fun _ _ _ h => h) (Or.inl ⟨by rfl, ?hz10⟩) (by assumption) ?_
        case hz10 => (intro w hSw; (try dsimp only at hSw); go_simp; try with_reducible rfl)
        simp only [Act.put, List.setIfInBounds_toArray, List.set_cons_zero, List.set_cons_succ]
        refine Zs.take (i := 11) (oi := ⟨some 98, _, _, _, _, _⟩) (v := ?u11) rfl (by kernel_rfl) (by kernel_rfl) (by kernel_rfl) (by decide) (by kernel_rfl) (by kernel_rfl) (fun _ _ _ h => h) (Or.inl ⟨by rfl, ?hz11⟩) (by assumption) ?_
        case hz11 => (intro w hSw; (try dsimp only at hSw); go_simp; try with_reducible rfl)
        simp only [Act.put, List.setIfInBounds_toArray, List.set_cons_zero, List.set_cons_succ]
        refine Zs.take (i := 12) (oi := ⟨some 99, _, _, _, _, _⟩) (v := ?u12) rfl (by kernel_rfl) (by kernel_rfl) (by kernel_rfl) (by decide) (by kernel_rfl) (by kernel_rfl) (fun _ _ _ h => h) (Or.inl ⟨by rfl, ?hz12⟩) (by assumption) ?_
        case hz12 => (intro w hSw; (try dsimp only at hSw); go_simp; try with_reducible rfl)
        simp only [Act.put, List.setIfInBounds_toArray, List.set_cons_zero, List.set_cons_succ]
        refine Zs.take (i := 13) (oi := ⟨some 100, _, _, _, _, _⟩) (v := ?u13) rfl (by kernel_rfl) (by kernel_rfl) (by kernel_rfl) (by decide) (by kernel_rfl) (by kernel_rfl) (fun _ _ _ h => h) (Or.inl ⟨by rfl, ?hz13⟩) (by assumption) ?_
        case hz13 => (intro w hSw; (try dsimp only at hSw); go_simp; try with_reducible rfl)
        simp only [Act.put, List.setIfInBounds_toArray, List.set_cons_zero, List.set_cons_succ]
        refine Zs.take (i := 14) (oi := ⟨some 101, _, _, _, _, _⟩) (v := ?u14) rfl (by kernel_rfl) (by kernel_rfl) (by kernel_rfl) (by decide) (by kernel_rfl) (by kernel_rfl) (fun _ _ _ h => h) (Or.inl ⟨by rfl, ?hz14⟩) (by assumption) ?_
        case hz14 => (intro w hSw; (try dsimp only at hSw); go_simp; try with_reducible rfl)
        simp only [Act.put, List.setIfInBounds_toArray, List.set_cons_zero, List.set_cons_succ]
        refine Zs.take (i := 15) (oi := ⟨some 102, _, _, _, _, _⟩) (v := ?u15) rfl (by kernel_rfl) (by kernel_rfl) (by kernel_rfl) (by decide) (by kernel_rfl) (by kernel_rfl) (fun _ _ _ h => h) (Or.inl ⟨by rfl, ?hz15⟩) (by assumption) ?_
        case hz15 => (intro w hSw; (try dsimp only at hSw); go_simp; try with_reducible rfl)
        simp only [Act.put, List.setIfInBounds_toArray, List.set_cons_zero, List.set_cons_succ]
        refine Zs.take (i := 16) (oi := ⟨some 103, _, _, _, _, _⟩) (v := .slice q m d) rfl (by kernel_rfl) (by kernel_rfl) (by kernel_rfl) (by decide) (by kernel_rfl) (by kernel_rfl) (fun _ _ _ h => h) (Or.inl ⟨by rfl, ?hz16⟩) (by assumption) ?_
        case hz16 => (intro w hSw; (try dsimp only at hSw); go_simp; try with_reducible rfl)
        simp only [Act.put, List.setIfInBounds_toArray, List.set_cons_zero, List.set_cons_succ]
        refine Zs.take (i := 17) (oi := ⟨some 104, _, _, _, _, _⟩) (v := ?u17) rfl (by kernel_rfl) (by kernel_rfl) (by kernel_rfl) (by decide) (by kernel_rfl) (by kernel_rfl) (fun _ _ _ h => h) (Or.inl ⟨by rfl, ?hz17⟩) (by assumption) ?_
        case hz17 => (intro w hSw; (try dsimp only at hSw); go_simp; try with_reducible rfl)
        simp only [Act.put, List.setIfInBounds_toArray, List.set_cons_zero, List.set_cons_succ]
        refine Zs.take (i := 18) (oi := ⟨some 105, _, _, _, _, _⟩) (v := .slice p8 (m - j) (d - j)) rfl (by kernel_rfl) (by kernel_rfl) (by kernel_rfl) (by decide) (by kernel_rfl) (by kernel_rfl) (fun _ _ _ h => h) (Or.inl ⟨by rfl, ?hz18⟩) (by assumption) ?_
        case hz18 => (intro w hSw; (try dsimp only at hSw); go_simp; try with_reducible rfl)
        simp only [Act.put, List.setIfInBounds_toArray, List.set_cons_zero, List.set_cons_succ]
        refine Zs.one (i := 7) (oi := ⟨some 94, _, _, _, _, _⟩) (by kernel_rfl) rfl (fun K hK => ?_)
        go_simp
        refine hK.out _ _ (fun _ => ⟨c0a, e3a⟩) ?_
        clear hK K
        try simp only [Act.put, List.setIfInBounds_toArray, List.set_cons_zero, List.set_cons_succ]
        refine Zs.one (i := 8) (oi := ⟨some 95, _, _, _, _, _⟩) (by kernel_rfl) rfl (fun K hK => ?_)
        refine step_append_run rfl (.tmp 92) (.tmp 94) 43 rfl _ _ _ _ rfl rfl hrun6 ?_
        refine hK.out _ _ (fun _ => ⟨c06, e36⟩) ?_
        clear hK K
        try simp only [Act.put, List.setIfInBounds_toArray, List.set_cons_zero, List.set_cons_succ]
        refine Zs.one (i := 19) (oi := ⟨some 106, _, _, _, _, _⟩) (by kernel_rfl) rfl (fun K hK => ?_)
        refine step_append_run rfl (.tmp 95) (.tmp 105) 43 rfl _ _ _ _ rfl rfl hrun7 ?_
        have hHeld7 := And.intro c07 e37
        refine hK.out _ _ (fun _ => ⟨c07, e37⟩) ?_
        clear hK K
        try simp only [Act.put, List.setIfInBounds_toArray, List.set_cons_zero, List.set_cons_succ]
        refine Zs.pure (i := 20) (oi := ⟨some 107, _, _, _, _, _⟩) (v := ?u20) rfl (by kernel_rfl) (by kernel_rfl) (by kernel_rfl) (by decide) (fun _ _ _ h => h) (Or.inl ⟨by rfl, ?hz20⟩) (by assumption) ?_
        case hz20 => (intro w hSw; (try dsimp only at hSw); go_simp; try with_reducible rfl)
        simp only [Act.put, List.setIfInBounds_toArray, List.set_cons_zero, List.set_cons_succ]
        refine Zs.take (i := 21) (oi := ⟨some 108, _, _, _, _, _⟩) (v := ?u21) rfl (by kernel_rfl) (by kernel_rfl) (by kernel_rfl) (by decide) (by kernel_rfl) (by kernel_rfl) (fun _ _ _ h => h) (Or.inl ⟨by rfl, ?hz21⟩) (by assumption) ?_
        case hz21 => (intro w hSw; (try dsimp only at hSw); go_simp; try with_reducible rfl)
        simp only [Act.put, List.setIfInBounds_toArray, List.set_cons_zero, List.set_cons_succ]
        refine Zs.one (i := 22) (oi := ⟨none, _, _, _, _, _⟩) (by kernel_rfl) rfl (fun K hK => ?_)
        go_simp
        refine hK.out _ _ (fun q => absurd q (by decide)) ?_
        clear hK K
        refine Zs.done (by kernel_rfl) ?_ _
        go_wp2_with fail
        go_ret
        exact ⟨rfl, R', i, x, _, hgtH.out, hxH.out, hxsH.out, cap7H.out, hfin.out⟩
  | some x0' =>
    rw [hh] at hOf
    simp only [Option.map_some, Option.getD_some, Option.isSome_some] at hOf
    obtain ⟨xn, hxn⟩ : ∃ xn, x0'.nm = xn := ⟨_, rfl⟩
    have hnes : (xn.toList == s.toList) = false := by
      rw [Bool.eq_false_iff]
      intro e
      exact hne x0' hh (by rw [hxn]; exact (bytes_beq_iff _ _).1 e)
    rw [hxn] at hOf
    clear hxn
    clear h hs hp hcp hn ht ha hne hx0 hn0 hi hil hnn hh
    go_enter Try.func13, Try.ntmps13
    go_wp2_with fail
    refine hat.out.mono ?_
    rintro e w1 ⟨rfl, hb1⟩
    have hO := hidP (hOf.out w1 (hH.out.below hb1))
    have hG0 := hidP (RGoes.below hH.out hb1)
    have hGo1 := hidP (hGo.out w1 (hH.out.below hb1))
    clear hat hOf hb1 hGo
    go_wp2_with fail
    refine hO.out.mono ?_
    rintro e w2 ⟨rfl, rfl⟩
    clear hO
    go_wp2_with fail
    refine hGo1.out.mono ?_
    rintro e w3 ⟨b, R', rfl, hgt, hg3⟩
    have hA := hidP (hAt.out R' w3 hg3.r hgt hg3.b)
    obtain ⟨x, hx, hxs, hxl, hxc, hlen⟩ := hgt0.out R' hgt
    have hgtH := hidP hgt
    have hg3H := hidP hg3
    have hxH := hidP hx
    have hxsH := hidP hxs
    have hlenH := hidP hlen
    clear hAt hGo1 hgt0 hgt hg3 hx hxs hlen
    go_wp2_with fail
    refine hA.out.mono ?_
    rintro e w4 ⟨rfl, hb4⟩
    have h4 := hidP (hg3H.out.r.below hb4)
    have hG4 := hidP (hG0.out.trans (hg3H.out.trans (RGoes.below hg3H.out.r hb4)))
    obtain ⟨g, cap, e1, _, e3⟩ := h4.out.at hxH.out
    have c0 := h4.out.c0
    rw [hg3H.out.b, e1, hlenH.out] at c0
    have hIR := (h4.out.ps x (List.mem_of_getElem? hxH.out)).1
    obtain ⟨m, hm⟩ : ∃ m, x.ps.length = m := ⟨_, rfl⟩
    obtain ⟨q, d, hv, hq⟩ := (id hIR : IR w4 x.v x.ps)
    rw [hv, hm] at e3
    rw [hv] at hIR hxc
    rw [hm] at hxl hxc
    have hmd : m ≤ d ∧ d ≤ maxLen := hxc
    have hdm : (d : Int) ≤ 9223372036854775807 := by have := hmd.2; unfold maxLen at this; omega
    have f3 := own_froz (j := i * 2 + 1) h4.out.row (by rw [e1]; rfl : _ = some g)
    have hIRH := hidP hIR
    have hmH := hidP hm
    have hqH := hidP hq
    have e1H := hidP e1
    clear hA hG0 hb4 hIR hv hm hq e1 hxc hg3H
    go_wp2_with fail
    go_loop [13] (fun k => ∃ j : Nat, j ≤ m ∧ k = .int .i64 j ∧ Hid (∀ t y, t < j → x.ps[t]? = some y → y < a)) (fun k => m - (intOf k).toNat)
    case atStart => exact ⟨0, by omega, rfl, fun t y h => by omega⟩
    case round =>
      obtain ⟨j, hj, rfl, hI⟩ := hrel
      by_cases hlt : j < m
      · have hltI : (j : Int) < (m : Int) := by omega
        obtain ⟨y, hy⟩ : ∃ y, x.ps[j]? = some y := ⟨_, List.getElem?_eq_getElem (by have := hmH.out; omega)⟩
        rcases hqH.out with hq | ⟨g2, o2, rfl, hc⟩
        · rw [hq] at hy; simp at hy
        · have cy := hc j y hy
          have hyH := hidP hy
          clear hy hc
          by_cases hya : y < a
          · go_wp2_with fail
            exact ⟨⟨j + 1, by omega, by go_num, fun t z h1 h2 => by
              by_cases e : t = j
              · subst e
                rw [hyH.out] at h2
                cases h2
                exact hya
              · exact hI.out t z (by omega) h2⟩, by simp [intOf]; omega⟩
          · have hk : Hid (kP a x.ps = j) := kP_eq (by have := hmH.out; omega) hI.out (fun z hz => by rw [hyH.out] at hz; cases hz; exact hya)
            have hjd : j ≤ d := by omega
            have hjc : ¬ d = j := by omega
            obtain ⟨v5, W5, hrun5, ⟨p5, n5, c5, hv5⟩, m5, v6, W6, hrun6, ⟨p6, n6, c6, hv6⟩, m6, hl7⟩ := put_runs (a := a) (j := j) hIRH.out (by rw [hmH.out]; exact hj) (by rw [hmH.out]; exact hxl)
            have hIR6 : IR W6 (.slice (some ⟨g2, o2, none⟩) x.ps.length d) x.ps := hIRH.out.mv m6 (fun _ _ h => h)
            obtain ⟨v7, W7, hrun7, ⟨p7, n7, c7, hv7⟩, m7, ir7, cap7, bl7⟩ := hl7 (.slice (some ⟨g2, o2 + j, none⟩) (m - j) (d - j)) (by have := hIR6.drop (j := j) (c := d - j) (.inr rfl); rw [hmH.out] at this; exact this)
            subst hv5
            subst hv6
            subst hv7
            have hfin : Hid (RGoes R w { R' with l := R'.l.set i ⟨x.nm, x.ps.take (kP a x.ps) ++ a :: x.ps.drop (kP a x.ps), .slice p7 n7 c7⟩ } (W7.setCell ⟨g, i * 2 + 1, none⟩ (.slice p7 n7 c7))) := by
              show RGoes _ _ _ _
              rw [hk.out]
              exact hG4.out.trans (h4.out.turnP hxH.out e1H.out m7 ir7 bl7)
            have cap7H := hidP cap7
            have c05 : W5.drew.cell? ⟨R.b, 0, none⟩ = some (.slice (some ⟨g, 0, none⟩) n cap) := m5.cell (a := ⟨R.b, 0, none⟩) (fun h => h) c0
            have e35 : W5.drew.cell? ⟨g, i * 2 + 1, none⟩ = some (.slice (some ⟨g2, o2, none⟩) m d) := m5.cell (a := ⟨g, i * 2 + 1, none⟩) (fun h => h) e3
            have hcm : W5.drew.alloc (.cells #[.int .i64 a] 3) = (W5.alloc (.cells #[.int .i64 a] 3)).drew := rfl
            rw [hcm] at hrun6
            clear hcm
            have mA : Mv (fun _ => False) W5 (W5.alloc (.cells #[.int .i64 a] 3)) := Mv.below ((Below.refl _ _).alloc (Nat.le_refl _) _)
            have c0a := mA.cell (a := ⟨R.b, 0, none⟩) (fun h => h) (m5.cell (a := ⟨R.b, 0, none⟩) (fun h => h) c0)
            have e3a := mA.cell (a := ⟨g, i * 2 + 1, none⟩) (fun h => h) (m5.cell (a := ⟨g, i * 2 + 1, none⟩) (fun h => h) e3)
            have c06 := m6.cell (a := ⟨R.b, 0, none⟩) (fun h => h) c0
            have e36 := m6.cell (a := ⟨g, i * 2 + 1, none⟩) (fun h => h) e3
            have c07 := m7.cell (a := ⟨R.b, 0, none⟩) (fun h => h) c0
            have e37 := m7.cell (a := ⟨g, i * 2 + 1, none⟩) (fun h => h) e3
            have f37 := (m7.froz (a := ⟨g, i * 2 + 1, none⟩) (fun h => h) (cell_lt e3)).trans f3
            have l1 : (j : Int) ≤ (m : Int) := by omega
            have l0 : (0 : Int) ≤ (j : Int) := by omega
            have hjdI : (j : Int) ≤ (d : Int) := by omega
            clear m5 m6 m7 hl7 hIR6 ir7 cap7 bl7 mA hI
            go_wp2_with (at_builtin; refine wpList_append_run rfl _ _ 43 rfl _ _ _ _ rfl rfl hrun5 ?_)
            refine Zs.region (S := fun y => y.cell? ⟨R.b, 0, none⟩ = some (.slice (some ⟨g, 0, none⟩) n cap) ∧ y.cell? ⟨g, i * 2 + 1, none⟩ = some (.slice (some ⟨g2, o2, none⟩) m d)) 22 (by kernel_rfl) ?_
            have hHeld := And.intro c05 e35
            refine Zs.take (i := 0) (oi := ⟨some 87, _, _, _, _, _⟩) (v := ?vs0) rfl (by kernel_rfl) (by kernel_rfl) (by kernel_rfl) (by decide) (by kernel_rfl) (by kernel_rfl) (fun _ _ _ h => h) (Or.inl ⟨by rfl, ?hys0⟩) (by assumption) ?_
            case hys0 => (intro w hSw; (try dsimp only at hSw); go_simp; try with_reducible rfl)
            simp only [Act.put, List.setIfInBounds_toArray, List.set_cons_zero, List.set_cons_succ]
            refine Zs.take (i := 1) (oi := ⟨some 88, _, _, _, _, _⟩) (v := ?vs1) rfl (by kernel_rfl) (by kernel_rfl) (by kernel_rfl) (by decide) (by kernel_rfl) (by kernel_rfl) (fun _ _ _ h => h) (Or.inl ⟨by rfl, ?hys1⟩) (by assumption) ?_
            case hys1 => (intro w hSw; (try dsimp only at hSw); go_simp; try with_reducible rfl)
            simp only [Act.put, List.setIfInBounds_toArray, List.set_cons_zero, List.set_cons_succ]
            refine Zs.take (i := 2) (oi := ⟨some 89, _, _, _, _, _⟩) (v := ?vs2) rfl (by kernel_rfl) (by kernel_rfl) (by kernel_rfl) (by decide) (by kernel_rfl) (by kernel_rfl) (fun _ _ _ h => h) (Or.inl ⟨by rfl, ?hys2⟩) (by assumption) ?_
            case hys2 => (intro w hSw; (try dsimp only at hSw); go_simp; try with_reducible rfl)
            simp only [Act.put, List.setIfInBounds_toArray, List.set_cons_zero, List.set_cons_succ]
            refine Zs.take (i := 3) (oi := ⟨some 90, _, _, _, _, _⟩) (v := ?vs3) rfl (by kernel_rfl) (by kernel_rfl) (by kernel_rfl) (by decide) (by kernel_rfl) (by kernel_rfl) (fun _ _ _ h => h) (Or.inl ⟨by rfl, ?hys3⟩) (by assumption) ?_
            case hys3 => (intro w hSw; (try dsimp only at hSw); go_simp; try with_reducible rfl)
            simp only [Act.put, List.setIfInBounds_toArray, List.set_cons_zero, List.set_cons_succ]
            refine Zs.take (i := 4) (oi := ⟨some 91, _, _, _, _, _⟩) (v := ?vs4) rfl (by kernel_rfl) (by kernel_rfl) (by kernel_rfl) (by decide) (by kernel_rfl) (by kernel_rfl) (fun _ _ _ h => h) (Or.inl ⟨by rfl, ?hys4⟩) (by assumption) ?_
            case hys4 => (intro w hSw; (try dsimp only at hSw); go_simp; try with_reducible rfl)
            simp only [Act.put, List.setIfInBounds_toArray, List.set_cons_zero, List.set_cons_succ]
            refine Zs.take (i := 5) (oi := ⟨some 92, _, _, _, _, _⟩) (v := ?vs5) rfl (by kernel_rfl) (by kernel_rfl) (by kernel_rfl) (by decide) (by kernel_rfl) (by kernel_rfl) (fun _ _ _ h => h) (Or.inl ⟨by rfl, ?hys5⟩) (by assumption) ?_
            case hys5 => (intro w hSw; (try dsimp only at hSw); go_simp; try with_reducible rfl)
            simp only [Act.put, List.setIfInBounds_toArray, List.set_cons_zero, List.set_cons_succ]
            refine Zs.take (i := 6) (oi := ⟨some 93, _, _, _, _, _⟩) (v := ?vs6) rfl (by kernel_rfl) (by kernel_rfl) (by kernel_rfl) (by decide) (by kernel_rfl) (by kernel_rfl) (fun _ _ _ h => h) (Or.inl ⟨by rfl, ?hys6⟩) (by assumption) ?_
            case hys6 => (intro w hSw; (try dsimp only at hSw); go_simp; try with_reducible rfl)
            simp only [Act.put, List.setIfInBounds_toArray, List.set_cons_zero, List.set_cons_succ]
            refine Zs.take (i := 9) (oi := ⟨some 96, _, _, _, _, _⟩) (v := ?vs9) rfl (by kernel_rfl) (by kernel_rfl) (by kernel_rfl) (by decide) (by kernel_rfl) (by kernel_rfl) (fun _ _ _ h => h) (Or.inl ⟨by rfl, ?hys9⟩) (by assumption) ?_
            case hys9 => (intro w hSw; (try dsimp only at hSw); go_simp; try with_reducible rfl)
            simp only [Act.put, List.setIfInBounds_toArray, List.set_cons_zero, List.set_cons_succ]
            refine Zs.take (i := 10) (oi := ⟨some 97, _, _, _, _, _⟩) (v := ?vs10) rfl (by kernel_rfl) (by kernel_rfl) (by kernel_rfl) (by decide) (by kernel_rfl) (by kernel_rfl) (fun _ _ _ h => h) (Or.inl ⟨by rfl, ?hys10⟩) (by assumption) ?_
            case hys10 => (intro w hSw; (try dsimp only at hSw); go_simp; try with_reducible rfl)
            simp only [Act.put, List.setIfInBounds_toArray, List.set_cons_zero, List.set_cons_succ]
            refine Zs.take (i := 11) (oi := ⟨some 98, _, _, _, _, _⟩) (v := ?vs11) rfl (by kernel_rfl) (by kernel_rfl) (by kernel_rfl) (by decide) (by kernel_rfl) (by kernel_rfl) (fun _ _ _ h => h) (Or.inl ⟨by rfl, ?hys11⟩) (by assumption) ?_
            case hys11 => (intro w hSw; (try dsimp only at hSw); go_simp; try with_reducible rfl)
            simp only [Act.put, List.setIfInBounds_toArray, List.set_cons_zero, List.set_cons_succ]
            refine Zs.take (i := 12) (oi := ⟨some 99, _, _, _, _, _⟩) (v := ?vs12) rfl (by kernel_rfl) (by kernel_rfl) (by kernel_rfl) (by decide) (by kernel_rfl) (by kernel_rfl) (fun _ _ _ h => h) (Or.inl ⟨by rfl, ?hys12⟩) (by assumption) ?_
            case hys12 => (intro w hSw; (try dsimp only at hSw); go_simp; try with_reducible rfl)
            simp only [Act.put, List.setIfInBounds_toArray, List.set_cons_zero, List.set_cons_succ]
            refine Zs.take (i := 13) (oi := ⟨some 100, _, _, _, _, _⟩) (v := ?vs13) rfl (by kernel_rfl) (by kernel_rfl) (by kernel_rfl) (by decide) (by kernel_rfl) (by kernel_rfl) (fun _ _ _ h => h) (Or.inl ⟨by rfl, ?hys13⟩) (by assumption) ?_
            case hys13 => (intro w hSw; (try dsimp only at hSw); go_simp; try with_reducible rfl)
            simp only [Act.put, List.setIfInBounds_toArray, List.set_cons_zero, List.set_cons_succ]
            refine Zs.take (i := 14) (oi := ⟨some 101, _, _, _, _, _⟩) (v := ?vs14) rfl (by kernel_rfl) (by kernel_rfl) (by kernel_rfl) (by decide) (by kernel_rfl) (by kernel_rfl) (fun _ _ _ h => h) (Or.inl ⟨by rfl, ?hys14⟩) (by assumption) ?_
            case hys14 => (intro w hSw; (try dsimp only at hSw); go_simp; try with_reducible rfl)
            simp only [Act.put, List.setIfInBounds_toArray, List.set_cons_zero, List.set_cons_succ]
            refine Zs.take (i := 15) (oi := ⟨some 102, _, _, _, _, _⟩) (v := ?vs15) rfl (by kernel_rfl) (by kernel_rfl) (by kernel_rfl) (by decide) (by kernel_rfl) (by kernel_rfl) (fun _ _ _ h => h) (Or.inl ⟨by rfl, ?hys15⟩) (by assumption) ?_
            case hys15 => (intro w hSw; (try dsimp only at hSw); go_simp; try with_reducible rfl)
            simp only [Act.put, List.setIfInBounds_toArray, List.set_cons_zero, List.set_cons_succ]
            refine Zs.take (i := 16) (oi := ⟨some 103, _, _, _, _, _⟩) (v := .slice (some ⟨g2, o2, none⟩) m d) rfl (by kernel_rfl) (by kernel_rfl) (by kernel_rfl) (by decide) (by kernel_rfl) (by kernel_rfl) (fun _ _ _ h => h) (Or.inl ⟨by rfl, ?hys16⟩) (by assumption) ?_
            case hys16 => (intro w hSw; (try dsimp only at hSw); go_simp; try with_reducible rfl)
            simp only [Act.put, List.setIfInBounds_toArray, List.set_cons_zero, List.set_cons_succ]
            refine Zs.take (i := 17) (oi := ⟨some 104, _, _, _, _, _⟩) (v := ?vs17) rfl (by kernel_rfl) (by kernel_rfl) (by kernel_rfl) (by decide) (by kernel_rfl) (by kernel_rfl) (fun _ _ _ h => h) (Or.inl ⟨by rfl, ?hys17⟩) (by assumption) ?_
            case hys17 => (intro w hSw; (try dsimp only at hSw); go_simp; try with_reducible rfl)
            simp only [Act.put, List.setIfInBounds_toArray, List.set_cons_zero, List.set_cons_succ]
            refine Zs.take (i := 18) (oi := ⟨some 105, _, _, _, _, _⟩) (v := .slice (some ⟨g2, o2 + j, none⟩) (m - j) (d - j)) rfl (by kernel_rfl) (by kernel_rfl) (by kernel_rfl) (by decide) (by kernel_rfl) (by kernel_rfl) (fun _ _ _ h => h) (Or.inl ⟨by rfl, ?hys18⟩) (by assumption) ?_
            case hys18 => (intro w hSw; (try dsimp only at hSw); go_simp; try with_reducible rfl)
            simp only [Act.put, List.setIfInBounds_toArray, List.set_cons_zero, List.set_cons_succ]
            refine Zs.one (i := 7) (oi := ⟨some 94, _, _, _, _, _⟩) (by kernel_rfl) rfl (fun K hK => ?_)
            go_simp
            refine hK.out _ _ (fun _ => ⟨c0a, e3a⟩) ?_
            clear hK K
            try simp only [Act.put, List.setIfInBounds_toArray, List.set_cons_zero, List.set_cons_succ]
            refine Zs.one (i := 8) (oi := ⟨some 95, _, _, _, _, _⟩) (by kernel_rfl) rfl (fun K hK => ?_)
            refine step_append_run rfl (.tmp 92) (.tmp 94) 43 rfl _ _ _ _ rfl rfl hrun6 ?_
            refine hK.out _ _ (fun _ => ⟨c06, e36⟩) ?_
            clear hK K
            try simp only [Act.put, List.setIfInBounds_toArray, List.set_cons_zero, List.set_cons_succ]
            refine Zs.one (i := 19) (oi := ⟨some 106, _, _, _, _, _⟩) (by kernel_rfl) rfl (fun K hK => ?_)
            refine step_append_run rfl (.tmp 95) (.tmp 105) 43 rfl _ _ _ _ rfl rfl hrun7 ?_
            have hHeld7 := And.intro c07 e37
            refine hK.out _ _ (fun _ => ⟨c07, e37⟩) ?_
            clear hK K
            try simp only [Act.put, List.setIfInBounds_toArray, List.set_cons_zero, List.set_cons_succ]
            refine Zs.pure (i := 20) (oi := ⟨some 107, _, _, _, _, _⟩) (v := ?vs20) rfl (by kernel_rfl) (by kernel_rfl) (by kernel_rfl) (by decide) (fun _ _ _ h => h) (Or.inl ⟨by rfl, ?hys20⟩) (by assumption) ?_
            case hys20 => (intro w hSw; (try dsimp only at hSw); go_simp; try with_reducible rfl)
            simp only [Act.put, List.setIfInBounds_toArray, List.set_cons_zero, List.set_cons_succ]
            refine Zs.take (i := 21) (oi := ⟨some 108, _, _, _, _, _⟩) (v := ?vs21) rfl (by kernel_rfl) (by kernel_rfl) (by kernel_rfl) (by decide) (by kernel_rfl) (by kernel_rfl) (fun _ _ _ h => h) (Or.inl ⟨by rfl, ?hys21⟩) (by assumption) ?_
            case hys21 => (intro w hSw; (try dsimp only at hSw); go_simp; try with_reducible rfl)
            simp only [Act.put, List.setIfInBounds_toArray, List.set_cons_zero, List.set_cons_succ]
            refine Zs.one (i := 22) (oi := ⟨none, _, _, _, _, _⟩) (by kernel_rfl) rfl (fun K hK => ?_)
            go_simp
            refine hK.out _ _ (fun q => absurd q (by decide)) ?_
            clear hK K
            refine Zs.done (by kernel_rfl) ?_ _
            go_wp2_with fail
            go_ret
            exact ⟨rfl, R', i, x, _, hgtH.out, hxH.out, hxsH.out, cap7H.out, hfin.out⟩
      · have hge : ¬ (j : Int) < (m : Int) := by omega
        have hk : Hid (kP a x.ps = j) := kP_eq (by have := hmH.out; omega) hI.out (fun z hz => by rw [List.getElem?_eq_none (by have := hmH.out; omega)] at hz; cases hz)
        have hjm := hidP (by omega : j = m)
        have hjd : j ≤ d := by omega
        obtain ⟨p8, hp8⟩ : ∃ p8, (if d = j then q else Option.map (fun x => x.add j) q) = p8 := ⟨_, rfl⟩
        have hq0 : (if d = 0 then q else Option.map (fun x => x.add 0) q) = q := by
          split
          · rfl
          · cases q <;> rfl
        obtain ⟨v5, W5, hrun5, ⟨p5, n5, c5, hv5⟩, m5, v6, W6, hrun6, ⟨p6, n6, c6, hv6⟩, m6, hl7⟩ := put_runs (a := a) (j := j) hIRH.out (by rw [hmH.out]; exact hj) (by rw [hmH.out]; exact hxl)
        obtain ⟨v7, W7, hrun7, ⟨p7, n7, c7, hv7⟩, m7, ir7, cap7, bl7⟩ := hl7 (.slice p8 (m - j) (d - j)) (by
          have e0 : x.ps.drop j = [] := List.drop_eq_nil_of_le (by have := hmH.out; have := hjm.out; omega)
          rw [e0]
          exact ⟨p8, d - j, by have := hjm.out; rw [show m - j = 0 by omega]; rfl, .inl rfl⟩)
        subst hv5
        subst hv6
        subst hv7
        have hfin : Hid (RGoes R w { R' with l := R'.l.set i ⟨x.nm, x.ps.take (kP a x.ps) ++ a :: x.ps.drop (kP a x.ps), .slice p7 n7 c7⟩ } (W7.setCell ⟨g, i * 2 + 1, none⟩ (.slice p7 n7 c7))) := by
          show RGoes _ _ _ _
          rw [hk.out]
          exact hG4.out.trans (h4.out.turnP hxH.out e1H.out m7 ir7 bl7)
        have cap7H := hidP cap7
        have c05 : W5.drew.cell? ⟨R.b, 0, none⟩ = some (.slice (some ⟨g, 0, none⟩) n cap) := m5.cell (a := ⟨R.b, 0, none⟩) (fun h => h) c0
        have e35 : W5.drew.cell? ⟨g, i * 2 + 1, none⟩ = some (.slice q m d) := m5.cell (a := ⟨g, i * 2 + 1, none⟩) (fun h => h) e3
        have hcm : W5.drew.alloc (.cells #[.int .i64 a] 3) = (W5.alloc (.cells #[.int .i64 a] 3)).drew := rfl
        rw [hcm] at hrun6
        clear hcm
        have mA : Mv (fun _ => False) W5 (W5.alloc (.cells #[.int .i64 a] 3)) := Mv.below ((Below.refl _ _).alloc (Nat.le_refl _) _)
        have c0a := mA.cell (a := ⟨R.b, 0, none⟩) (fun h => h) (m5.cell (a := ⟨R.b, 0, none⟩) (fun h => h) c0)
        have e3a := mA.cell (a := ⟨g, i * 2 + 1, none⟩) (fun h => h) (m5.cell (a := ⟨g, i * 2 + 1, none⟩) (fun h => h) e3)
        have c06 := m6.cell (a := ⟨R.b, 0, none⟩) (fun h => h) c0
        have e36 := m6.cell (a := ⟨g, i * 2 + 1, none⟩) (fun h => h) e3
        have c07 := m7.cell (a := ⟨R.b, 0, none⟩) (fun h => h) c0
        have e37 := m7.cell (a := ⟨g, i * 2 + 1, none⟩) (fun h => h) e3
        have f37 := (m7.froz (a := ⟨g, i * 2 + 1, none⟩) (fun h => h) (cell_lt e3)).trans f3
        have l1 : (j : Int) ≤ (m : Int) := by omega
        have l0 : (0 : Int) ≤ (j : Int) := by omega
        have hjdI : (j : Int) ≤ (d : Int) := by omega
        clear m5 m6 m7 hl7 ir7 cap7 bl7 mA hI
        go_wp2_with (at_builtin; refine wpList_append_run rfl _ _ 43 rfl _ _ _ _ rfl rfl hrun5 ?_)
        refine Zs.region (S := fun y => y.cell? ⟨R.b, 0, none⟩ = some (.slice (some ⟨g, 0, none⟩) n cap) ∧ y.cell? ⟨g, i * 2 + 1, none⟩ = some (.slice q m d)) 22 (by kernel_rfl) ?_
        have hHeld := And.intro c05 e35
        refine Zs.take (i := 0) (oi := ⟨some 87, _, _, _, _, _⟩) (v := ?us0) rfl (by kernel_rfl) (by kernel_rfl) (by kernel_rfl) (by decide) (by kernel_rfl) (by kernel_rfl) (fun _ _ _ h => h) (Or.inl ⟨by rfl, ?hzs0⟩) (by assumption) ?_
        case hzs0 => (intro w hSw; (try dsimp only at hSw); go_simp; try with_reducible rfl)
        simp only [Act.put, List.setIfInBounds_toArray, List.set_cons_zero, List.set_cons_succ]
        refine Zs.take (i := 1) (oi := ⟨some 88, _, _, _, _, _⟩) (v := ?us1) rfl (by kernel_rfl) (by kernel_rfl) (by kernel_rfl) (by decide) (by kernel_rfl) (by kernel_rfl) (fun _ _ _ h => h) (Or.inl ⟨by rfl, ?hzs1⟩) (by assumption) ?_
        case hzs1 => (intro w hSw; (try dsimp only at hSw); go_simp; try with_reducible rfl)
        simp only [Act.put, List.setIfInBounds_toArray, List.set_cons_zero, List.set_cons_succ]
        refine Zs.take (i := 2) (oi := ⟨some 89, _, _, _, _, _⟩) (v := ?us2) rfl (by kernel_rfl) (by kernel_rfl) (by kernel_rfl) (by decide) (by kernel_rfl) (by kernel_rfl) (fun _ _ _ h => h) (Or.inl ⟨by rfl, ?hzs2⟩) (by assumption) ?_
        case hzs2 => (intro w hSw; (try dsimp only at hSw); go_simp; try with_reducible rfl)
        simp only [Act.put, List.setIfInBounds_toArray, List.set_cons_zero, List.set_cons_succ]
        refine Zs.take (i := 3) (oi := ⟨some 90, _, _, _, _, _⟩) (v := ?us3) rfl (by kernel_rfl) (by kernel_rfl) (by kernel_rfl) (by decide) (by kernel_rfl) (by kernel_rfl) (fun _ _ _ h => h) (Or.inl ⟨by rfl, ?hzs3⟩) (by assumption) ?_
        case hzs3 => (intro w hSw; (try dsimp only at hSw); go_simp; try with_reducible rfl)
        simp only [Act.put, List.setIfInBounds_toArray, List.set_cons_zero, List.set_cons_succ]
        refine Zs.take (i := 4) (oi := ⟨some 91, _, _, _, _, _⟩) (v := ?us4) rfl (by kernel_rfl) (by kernel_rfl) (by kernel_rfl) (by decide) (by kernel_rfl) (by kernel_rfl) (fun _ _ _ h => h) (Or.inl ⟨by rfl, ?hzs4⟩) (by assumption) ?_
        case hzs4 => (intro w hSw; (try dsimp only at hSw); go_simp; try with_reducible rfl)
        simp only [Act.put, List.setIfInBounds_toArray, List.set_cons_zero, List.set_cons_succ]
        refine Zs.take (i := 5) (oi := ⟨some 92, _, _, _, _, _⟩) (v := ?us5) rfl (by kernel_rfl) (by kernel_rfl) (by kernel_rfl) (by decide) (by kernel_rfl) (by kernel_rfl) (fun _ _ _ h => h) (Or.inl ⟨by rfl, ?hzs5⟩) (by assumption) ?_
        case hzs5 => (intro w hSw; (try dsimp only at hSw); go_simp; try with_reducible rfl)
        simp only [Act.put, List.setIfInBounds_toArray, List.set_cons_zero, List.set_cons_succ]
        refine Zs.take (i := 6) (oi := ⟨some 93, _, _, _, _, _⟩) (v := ?us6) rfl (by kernel_rfl) (by kernel_rfl) (by kernel_rfl) (by decide) (by kernel_rfl) (by kernel_rfl) (fun _ _ _ h => h) (Or.inl ⟨by rfl, ?hzs6⟩) (by assumption) ?_
        case hzs6 => (intro w hSw; (try dsimp only at hSw); go_simp; try with_reducible rfl)
        simp only [Act.put, List.setIfInBounds_toArray, List.set_cons_zero, List.set_cons_succ]
        refine Zs.take (i := 9) (oi := ⟨some 96, _, _, _, _, _⟩) (v := ?us9) rfl (by kernel_rfl) (by kernel_rfl) (by kernel_rfl) (by decide) (by kernel_rfl) (by kernel_rfl) (fun _ _ _ h => h) (Or.inl ⟨by rfl, ?hzs9⟩) (by assumption) ?_
        case hzs9 => (intro w hSw; (try dsimp only at hSw); go_simp; try with_reducible rfl)
        simp only [Act.put, List.setIfInBounds_toArray, List.set_cons_zero, List.set_cons_succ]
        refine Zs.take (i := 10) (oi := ⟨some 97, _, _, _, _, _⟩) (v := ?us10) rfl (by kernel_rfl) (by kernel_rfl) (by kernel_rfl) (by decide) (by kernel_rfl) (by kernel_rfl) (fun _ _ _ h => h) (Or.inl ⟨by rfl, ?hzs10⟩) (by assumption) ?_
        case hzs10 => (intro w hSw; (try dsimp only at hSw); go_simp; try with_reducible rfl)
        simp only [Act.put, List.setIfInBounds_toArray, List.set_cons_zero, List.set_cons_succ]
        refine Zs.take (i := 11) (oi := ⟨some 98, _, _, _, _, _⟩) (v := ?us11) rfl (by kernel_rfl) (by kernel_rfl) (by kernel_rfl) (by decide) (by kernel_rfl) (by kernel_rfl) (fun _ _ _ h => h) (Or.inl ⟨by rfl, ?hzs11⟩) (by assumption) ?_
        case hzs11 => (intro w hSw; (try dsimp only at hSw); go_simp; try with_reducible rfl)
        simp only [Act.put, List.setIfInBounds_toArray, List.set_cons_zero, List.set_cons_succ]
        refine Zs.take (i := 12) (oi := ⟨some 99, _, _, _, _, _⟩) (v := ?us12) rfl (by kernel_rfl) (by kernel_rfl) (by kernel_rfl) (by decide) (by kernel_rfl) (by kernel_rfl) (fun _ _ _ h => h) (Or.inl ⟨by rfl, ?hzs12⟩) (by assumption) ?_
        case hzs12 => (intro w hSw; (try dsimp only at hSw); go_simp; try with_reducible rfl)
        simp only [Act.put, List.setIfInBounds_toArray, List.set_cons_zero, List.set_cons_succ]
        refine Zs.take (i := 13) (oi := ⟨some 100, _, _, _, _, _⟩) (v := ?us13) rfl (by kernel_rfl) (by kernel_rfl) (by kernel_rfl) (by decide) (by kernel_rfl) (by kernel_rfl) (fun _ _ _ h => h) (Or.inl ⟨by rfl, ?hzs13⟩) (by assumption) ?_
        case hzs13 => (intro w hSw; (try dsimp only at hSw); go_simp; try with_reducible rfl)
        simp only [Act.put, List.setIfInBounds_toArray, List.set_cons_zero, List.set_cons_succ]
        refine Zs.take (i := 14) (oi := ⟨some 101, _, _, _, _, _⟩) (v := ?us14) rfl (by kernel_rfl) (by kernel_rfl) (by kernel_rfl) (by decide) (by kernel_rfl) (by kernel_rfl) (fun _ _ _ h => h) (Or.inl ⟨by rfl, ?hzs14⟩) (by assumption) ?_
        case hzs14 => (intro w hSw; (try dsimp only at hSw); go_simp; try with_reducible rfl)
        simp only [Act.put, List.setIfInBounds_toArray, List.set_cons_zero, List.set_cons_succ]
        refine Zs.take (i := 15) (oi := ⟨some 102, _, _, _, _, _⟩) (v := ?us15) rfl (by kernel_rfl) (by kernel_rfl) (by kernel_rfl) (by decide) (by kernel_rfl) (by kernel_rfl) (fun _ _ _ h => h) (Or.inl ⟨by rfl, ?hzs15⟩) (by assumption) ?_
        case hzs15 => (intro w hSw; (try dsimp only at hSw); go_simp; try with_reducible rfl)
        simp only [Act.put, List.setIfInBounds_toArray, List.set_cons_zero, List.set_cons_succ]
        refine Zs.take (i := 16) (oi := ⟨some 103, _, _, _, _, _⟩) (v := .slice q m d) rfl (by kernel_rfl) (by kernel_rfl) (by kernel_rfl) (by decide) (by kernel_rfl) (by kernel_rfl) (fun _ _ _ h => h) (Or.inl ⟨by rfl, ?hzs16⟩) (by assumption) ?_
        case hzs16 => (intro w hSw; (try dsimp only at hSw); go_simp; try with_reducible rfl)
        simp only [Act.put, List.setIfInBounds_toArray, List.set_cons_zero, List.set_cons_succ]
        refine Zs.take (i := 17) (oi := ⟨some 104, _, _, _, _, _⟩) (v := ?us17) rfl (by kernel_rfl) (by kernel_rfl) (by kernel_rfl) (by decide) (by kernel_rfl) (by kernel_rfl) (fun _ _ _ h => h) (Or.inl ⟨by rfl, ?hzs17⟩) (by assumption) ?_
        case hzs17 => (intro w hSw; (try dsimp only at hSw); go_simp; try with_reducible rfl)
        simp only [Act.put, List.setIfInBounds_toArray, List.set_cons_zero, List.set_cons_succ]
        refine Zs.take (i := 18) (oi := ⟨some 105, _, _, _, _, _⟩) (v := .slice p8 (m - j) (d - j)) rfl (by kernel_rfl) (by kernel_rfl) (by kernel_rfl) (by decide) (by kernel_rfl) (by kernel_rfl) (fun _ _ _ h => h) (Or.inl ⟨by rfl, ?hzs18⟩) (by assumption) ?_
        case hzs18 => (intro w hSw; (try dsimp only at hSw); go_simp; try with_reducible rfl)
        simp only [Act.put, List.setIfInBounds_toArray, List.set_cons_zero, List.set_cons_succ]
        refine Zs.one (i := 7) (oi := ⟨some 94, _, _, _, _, _⟩) (by kernel_rfl) rfl (fun K hK => ?_)
        go_simp
        refine hK.out _ _ (fun _ => ⟨c0a, e3a⟩) ?_
        clear hK K
        try simp only [Act.put, List.setIfInBounds_toArray, List.set_cons_zero, List.set_cons_succ]
        refine Zs.one (i := 8) (oi := ⟨some 95, _, _, _, _, _⟩) (by kernel_rfl) rfl (fun K hK => ?_)
        refine step_append_run rfl (.tmp 92) (.tmp 94) 43 rfl _ _ _ _ rfl rfl hrun6 ?_
        refine hK.out _ _ (fun _ => ⟨c06, e36⟩) ?_
        clear hK K
        try simp only [Act.put, List.setIfInBounds_toArray, List.set_cons_zero, List.set_cons_succ]
        refine Zs.one (i := 19) (oi := ⟨some 106, _, _, _, _, _⟩) (by kernel_rfl) rfl (fun K hK => ?_)
        refine step_append_run rfl (.tmp 95) (.tmp 105) 43 rfl _ _ _ _ rfl rfl hrun7 ?_
        have hHeld7 := And.intro c07 e37
        refine hK.out _ _ (fun _ => ⟨c07, e37⟩) ?_
        clear hK K
        try simp only [Act.put, List.setIfInBounds_toArray, List.set_cons_zero, List.set_cons_succ]
        refine Zs.pure (i := 20) (oi := ⟨some 107, _, _, _, _, _⟩) (v := ?us20) rfl (by kernel_rfl) (by kernel_rfl) (by kernel_rfl) (by decide) (fun _ _ _ h => h) (Or.inl ⟨by rfl, ?hzs20⟩) (by assumption) ?_
        case hzs20 => (intro w hSw; (try dsimp only at hSw); go_simp; try with_reducible rfl)
        simp only [Act.put, List.setIfInBounds_toArray, List.set_cons_zero, List.set_cons_succ]
        refine Zs.take (i := 21) (oi := ⟨some 108, _, _, _, _, _⟩) (v := ?us21) rfl (by kernel_rfl) (by kernel_rfl) (by kernel_rfl) (by decide) (by kernel_rfl) (by kernel_rfl) (fun _ _ _ h => h) (Or.inl ⟨by rfl, ?hzs21⟩) (by assumption) ?_
        case hzs21 => (intro w hSw; (try dsimp only at hSw); go_simp; try with_reducible rfl)
        simp only [Act.put, List.setIfInBounds_toArray, List.set_cons_zero, List.set_cons_succ]
        refine Zs.one (i := 22) (oi := ⟨none, _, _, _, _, _⟩) (by kernel_rfl) rfl (fun K hK => ?_)
        go_simp
        refine hK.out _ _ (fun q => absurd q (by decide)) ?_
        clear hK K
        refine Zs.done (by kernel_rfl) ?_ _
        go_wp2_with fail
        go_ret
        exact ⟨rfl, R', i, x, _, hgtH.out, hxH.out, hxsH.out, cap7H.out, hfin.out⟩
end Go.Proofs.Ytfmceioiglmepaa
