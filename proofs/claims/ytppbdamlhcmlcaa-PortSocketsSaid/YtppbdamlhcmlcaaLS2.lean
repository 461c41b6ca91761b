/- PortSockets: the walk. -/
import Derived.Test.YtppbdamlhcmlcaaLS1
import Derived.Deep.RegionHeld3
namespace Go.Proofs.Ytppbdamlhcmlcaa
open Go.RowKit Go.Shelf Go.Lib
structure La (w : World) (bt A : Nat) (S : St) (W : World) : Prop where
  f : Fr w S W
  bt : S.bt = bt
  na : ∀ k, k < 3 → W.cell? ⟨A, k, none⟩ = some (.string (nm k))
  a1 : w.heap.size ≤ A ∧ ¬ hasB S A
theorem La.step {w W W' : World} {bt A : Nat} {S S' : St} {d : Nat} (h : La w bt A S W) (g : Goes S W S' W' d) : La w bt A S' W' :=
  ⟨h.f.step g, g.bt.trans h.bt, fun k hk => g.mv.cell (a := ⟨A, k, none⟩) h.a1.2 (h.na k hk), ⟨h.a1.1, (g.beside (cell_lt (h.na 0 (by decide))) h.a1.2).2⟩⟩
set_option maxRecDepth 100000 in
set_option maxHeartbeats 4000000 in
theorem sockets_walk (a : Option Addr) (b o n cap : Nat) (us : List Nat) (w : World) (ha : 0 < n → a = some ⟨b, o, none⟩) (hl : us.length = n) (hel : ∀ (j u : Nat), us[j]? = some u → w.cell? ⟨b, o + j, none⟩ = some (.int .u8 (u : Nat))) (hub : ∀ u ∈ us, u ≤ 255) (hml : n ≤ maxLen) :
    Calls Try.prog 5 #[.slice a n cap] w fun e w' => e = .returned (.bool true) ∧ Below w.heap.size w w' := by
  have hK := hidP (known_any w)
  have haH := hidP ha
  have hlH := hidP hl
  have helH := hidP hel
  have hubH := hidP hub
  have hnm : (n : Int) ≤ 9223372036854775807 := by unfold maxLen at hml; omega
  clear ha hl hel hub hml
  by_cases h8 : 45 < n
  · have h8I : (45 : Int) < (n : Int) := by omega
    go_enter Try.func5, Try.ntmps5
    go_wp2_with fail
    refine hK.out.mono ?_
    rintro e V ⟨rfl, hbV⟩
    go_wp2_with fail
    go_ret
    exact ⟨rfl, hbV⟩
  · have h8I : decide ((45 : Int) < (n : Int)) = false := by simp; omega
    have h8J : (n : Int) ≤ 45 := by omega
    go_enter Try.func5, Try.ntmps5
    go_wp2_with fail
    refine hK.out.mono ?_
    rintro e V ⟨rfl, hbV⟩
    obtain ⟨V1, hV1⟩ : ∃ V1, V.alloc (.cells #[.string ⟨#[97]⟩, .string ⟨#[98]⟩, .string ⟨#[99]⟩] 68) = V1 := ⟨_, rfl⟩
    have hbV1 : Below w.heap.size w V1 := by rw [← hV1]; exact hbV.alloc hbV.size _
    have hA : ∀ k, k < 3 → V1.cell? ⟨V.heap.size, k, none⟩ = some (.string (nm k)) := by rw [← hV1]; exact fun k hk => cell_at rfl (by match k, hk with | 0, _ => rfl | 1, _ => rfl | 2, _ => rfl)
    have hN := hidP (new_any V1)
    have hVw := hbV.size
    have hs1 : V1.heap.size = V.heap.size + 1 := by rw [← hV1]; simp
    have hAH := hidP (And.intro hA (And.intro hVw (And.intro hbV1 hs1)))
    clear hbV hbV1 hA hVw hs1 hK
    go_wp2_with (rw [hV1])
    refine hN.out.mono ?_
    rintro e W1 ⟨rfl, hg1, hb1⟩
    have F1 := Fr.new hAH.out.2.2.1 hg1 hb1
    obtain ⟨bt, hbt⟩ : ∃ bt, V1.heap.size + 1 = bt := ⟨_, rfl⟩
    obtain ⟨A, hAe⟩ : ∃ A, V.heap.size = A := ⟨_, rfl⟩
    have hs1 := hAH.out.2.2.2
    have L1 : Hid (La w bt A (empty (V1.heap.size + 1) V1.heap.size) W1) := by
      subst hAe
      refine ⟨F1, hbt, fun k hk => (Mv.below (E := fun _ => False) hb1).cell (a := ⟨V.heap.size, k, none⟩) (fun h => h) (hAH.out.1 k hk), hAH.out.2.1, fun ⟨tg, e⟩ => ?_⟩
      cases tg with
      | t => have : V.heap.size = V1.heap.size + 1 := e; omega
      | h => have : V.heap.size = V1.heap.size := e; omega
      | m => cases e
      | q s => obtain ⟨q, e, _⟩ := e; cases e
      | v s => obtain ⟨q, e, _⟩ := e; cases e
    rw [hbt, hAe]
    clear hN hg1 hb1 hAH F1 hbt hAe hV1 hs1
    go_wp2_with fail
    go_loopw [5] (fun i wr => ∃ (j : Nat) (S : St), j ≤ 3 ∧ i = .int .i64 j ∧ Hid (La w bt A S wr ∧ S.c ≤ j ∧ (pl S).last = 0 ∧ (∀ k, k < j → (pl S).q (nm k) = some []) ∧ (∀ k, k < 3 → j ≤ k → (pl S).q (nm k) = none))) (fun i _ => 3 - (intOf i).toNat)
    case atStart => exact ⟨0, _, by omega, rfl, L1.out, Nat.le_refl _, rfl, fun k hk => by omega, fun k _ _ => rfl⟩
    case round =>
      clear L1
      obtain ⟨j, S, hj, rfl, hI⟩ := hrel
      by_cases hlt : j < 3
      · have hltI : (j : Int) < 3 := by omega
        have hj0 : (0 : Int) ≤ (j : Int) := by omega
        have cn := hI.out.1.na j hlt
        have hL := hidP (listen_any S (nm j) wr hI.out.1.f.g (by rw [nm_size]; decide) (by have := hI.out.2.1; omega))
        rw [hI.out.1.bt, listen_ok' (hI.out.2.2.2.2 j hlt (Nat.le_refl _)) (nm_ne j)] at hL
        go_wp2_with fail
        refine hL.out.mono ?_
        rintro e W2 ⟨rfl, S2, G2, e2⟩
        have L2 : Hid (La w bt A S2 W2 ∧ S2.c ≤ j + 1 ∧ (pl S2).last = 0 ∧ (∀ k, k < j + 1 → (pl S2).q (nm k) = some []) ∧ (∀ k, k < 3 → j + 1 ≤ k → (pl S2).q (nm k) = none)) := by
          refine ⟨hI.out.1.step G2, by have := G2.c; have := hI.out.2.1; omega, by rw [e2]; exact hI.out.2.2.1, fun k hk => ?_, fun k hk hjk => ?_⟩
          · rw [e2]
            dsimp only
            by_cases hkj : k = j
            · subst hkj; exact upP_at _ _ rfl
            · rw [upP_other _ _ (fun e => hkj (nm_inj (by omega) hlt e))]; exact hI.out.2.2.2.1 k (by omega)
          · rw [e2]
            dsimp only
            rw [upP_other _ _ (fun e => (by have := nm_inj hk hlt e; omega))]; exact hI.out.2.2.2.2 k hk (by omega)
        clear hL G2 e2 hI cn
        go_wp2_with fail
        go_roundw
        case rel => exact ⟨j + 1, S2, by omega, by push_cast; rfl, L2.out⟩
        case measure => simp [intOf]; omega
      · have hj3 : j = 3 := by omega
        have hgeI : ¬ (j : Int) < 3 := by omega
        obtain ⟨W2, hW2⟩ : ∃ W2, wr.alloc (.cells #[.slice none 0 0, .slice none 0 0, .slice none 0 0] 69) = W2 := ⟨_, rfl⟩
        obtain ⟨B, hB⟩ : ∃ B, wr.heap.size = B := ⟨_, rfl⟩
        have L2 : Hid (Ls w bt A B (fun _ => .slice none 0 0) (fun _ => []) S W2 ∧ (pl S).last = 0 ∧ S.c ≤ 10 + 5 * 0) := by
          have b2 : Below wr.heap.size wr W2 := by rw [← hW2]; exact (Below.refl _ _).alloc (Nat.le_refl _) _
          have g2 := hI.out.1.step (Goes.below hI.out.1.f.g b2)
          have lA := cell_lt (hI.out.1.na 0 (by decide))
          simp only at lA
          refine ⟨⟨g2.f, g2.bt, g2.na, fun k hk => ?_, fun k _ => .inl ⟨rfl, rfl⟩, fun k hk => hI.out.2.2.2.1 k (by omega), fun k _ => by simp, by omega, g2.a1, ⟨by rw [← hB]; exact hI.out.1.f.b.size, fun e => by have := hI.out.1.f.g.ltB e; omega⟩, (fun k _ g e => by cases e), (fun i k _ _ _ g e => by cases e)⟩, hI.out.2.2.1, by have := hI.out.2.1; omega⟩
          rw [← hW2, ← hB]
          exact ⟨cell_at rfl (by match k, hk with | 0, _ => rfl | 1, _ => rfl | 2, _ => rfl), froz_new rfl⟩
        clear hI
        obtain ⟨j0, hj0⟩ : ∃ j0, j = j0 := ⟨_, rfl⟩
        subst hj0
        clear hj3
        go_wp2_with (rw [hW2])
        clear hW2 hB hgeI hj hlt
        go_loopw [7, 8] (fun nx i wr => ∃ (j : Nat) (S : St) (wv : Nat → Value) (ws : Nat → List Int) (last : Int), j ≤ n ∧ i = .int .i64 j ∧ nx = .int .i64 (last + 1) ∧ 0 ≤ last ∧ last ≤ j ∧ Hid (Ls w bt A B wv ws S wr ∧ (pl S).last = last ∧ S.c ≤ 10 + 5 * j)) (fun _ i _ => n - (intOf i).toNat)
        case atStart => exact ⟨0, S, _, _, 0, by omega, rfl, rfl, by omega, by omega, L2.out⟩
        case round =>
          clear L2
          obtain ⟨j, S, wv, ws, last, hj, rfl, rfl, hla0, hla1, hI⟩ := hrel
          by_cases hlt : j < n
          · have hltI : (j : Int) < (n : Int) := by omega
            obtain rfl := haH.out (by omega)
            obtain ⟨u, hu⟩ : ∃ u, us[j]? = some u := ⟨us[j]'(by have := hlH.out; omega), List.getElem?_eq_getElem _⟩
            have cu := (Mv.below (E := fun _ => False) hI.out.1.f.b).cell (fun h => h) (helH.out j u hu)
            have cuH : Hid (∀ W, Below w.heap.size w W → W.cell? ⟨b, o + j, none⟩ = some (.int .u8 (u : Nat))) := fun W hb => (Mv.below (E := fun _ => False) hb).cell (a := ⟨b, o + j, none⟩) (fun h => h) (helH.out j u hu)
            have hu255 := hubH.out u (List.mem_of_getElem? hu)
            obtain ⟨k, hk⟩ : ∃ k, u % 3 = k := ⟨_, rfl⟩
            have hk3 : k < 3 := by omega
            have hmod : ((u : Nat) : Int).tmod 3 = (k : Int) := by rw [Int.tmod_eq_emod_of_nonneg (by omega)]; omega
            obtain ⟨x3, hx3⟩ : ∃ x3, u / 3 = x3 := ⟨_, rfl⟩
            have hw3 : IntKind.u8.wrap ((u : Int) / 3) = (x3 : Int) := by rw [IntKind.wrap_u8]; omega
            obtain ⟨dd, hdd⟩ : ∃ dd, x3 % 2 = dd := ⟨_, rfl⟩
            have ht2 : (x3 : Int).tmod 2 = (dd : Int) := by rw [Int.tmod_eq_emod_of_nonneg (by omega)]; omega
            have hd2 : dd < 2 := by omega
            have hkI : (k : Int) < 3 := by omega
            have hk0 : (0 : Int) ≤ (k : Int) := by omega
            have cB := hI.out.1.c k hk3
            have cB1 := cB.1
            obtain ⟨p, c, hv⟩ := (hI.out.1.is k hk3).shape
            obtain ⟨m, hm⟩ : ∃ m, (ws k).length = m := ⟨_, rfl⟩
            rw [hv, hm] at cB1
            have hc9 : S.c ≤ 900000 := by have := hI.out.2.2; omega
            have hl1 : last + 1 + 1 ≤ 9223372036854775807 := by omega
            have hl0 : -9223372036854775808 ≤ last + 1 + 1 := by omega
            have hvH := hidP (And.intro hv hm)
            clear hu hk hx3 hdd cB hv hm
            rcases dd with _ | _ | dd
            rotate_left 2
            · omega
            rotate_left 1
            · by_cases hm0 : m = 0
              · subst hm0
                have L5 : Hid (Ls w bt A B wv ws S wr ∧ (pl S).last = last ∧ S.c ≤ 10 + 5 * (j + 1)) := ⟨hI.out.1, hI.out.2.1, by have := hI.out.2.2; omega⟩
                clear hI
                go_wp2_with fail
                go_loopw [14] (fun i wr => ∃ kk : Nat, kk ≤ 3 ∧ i = .int .i64 kk ∧ Hid (Ls w bt A B wv ws S wr)) (fun i _ => 3 - (intOf i).toNat)
                case atStart => exact ⟨0, by omega, rfl, L5.out.1⟩
                case round =>
                  obtain ⟨kk, hkk, rfl, hJ⟩ := hrel
                  by_cases hltk : kk < 3
                  · have hltkI : (kk : Int) < 3 := by omega
                    have hkk0 : (0 : Int) ≤ (kk : Int) := by omega
                    obtain ⟨pp, cc, hvv⟩ := (hJ.out.is kk hltk).shape
                    obtain ⟨mm, hmm⟩ : ∃ mm, ((ws) kk).length = mm := ⟨_, rfl⟩
                    rw [hmm] at hvv
                    have n1 := hJ.out.na kk hltk
                    have n2 := (hJ.out.c kk hltk).1
                    rw [hvv] at n2
                    have hvvH := hidP hvv
                    have hW : Hid (∀ W, Below wr.heap.size wr W → Calls Try.prog 23 #[.pointer (some ⟨bt, 0, none⟩), .string (nm kk)] W fun e W' => ∃ q9 c9, e = .returned (.slice q9 mm c9) ∧ Ls w bt A B wv ws S W') := fun W hb => by
                      have hJW := hJ.out.below hb
                      have := waiting_len S (nm kk) W hJW.f.g (by rw [nm_size]; decide) mm (by rw [hJW.q kk hltk]; simp only [Option.getD_some, List.length_map]; exact hmm)
                      rw [hJW.bt] at this
                      exact this.mono (fun e W' ⟨q9, c9, he, hb9⟩ => ⟨q9, c9, he, hJW.below hb9⟩)
                    clear hJ hmm hvv
                    go_wp2_with fail
                    go_region_held3 (fun w' => w'.cell? ⟨A, kk, none⟩ = some (.string (nm kk)) ∧ w'.cell? ⟨B, kk, none⟩ = some (.slice pp mm cc))
                      (first
                        | exact ⟨n1, n2⟩
                        | exact ‹_ ∧ _›.1
                        | exact ‹_ ∧ _›.2
                        | assumption
                        | (simp only [World.cell?_drew]; exact ⟨n1, n2⟩)
                        | (have t1 := J9.na kk hltk; have t2 := (J9.c kk hltk).1; rw [hvvH.out] at t2; exact ⟨t1, t2⟩))
                      (first
                        | (go_at_call 23; refine (hW.out _ (Below.refl _ _).drew).mono ?_; rintro e W9 ⟨q9, c9, rfl, J9⟩))
                    have J9H := hidP J9
                    clear hW J9 n1 n2 hvvH
                    go_wp2_with fail
                    go_roundw
                    case rel => exact ⟨kk + 1, by omega, by push_cast; rfl, J9H.out⟩
                    case measure => simp [intOf]; omega
                  · obtain rfl : kk = 3 := by omega
                    have LE : Hid (Ls w bt A B wv ws S wr ∧ (pl S).last = last ∧ S.c ≤ 10 + 5 * (j + 1)) := ⟨hJ.out, L5.out.2⟩
                    clear hJ L5
                    go_wp2_with fail
                    exact ⟨⟨j + 1, S, _, _, last, by omega, by go_num, rfl, by omega, by push_cast; omega, LE⟩, by simp [intOf]; omega⟩
              · obtain ⟨x, r, hxr⟩ : ∃ x r, ws k = x :: r := by
                  cases e : ws k with
                  | nil => have := hvH.out.2; rw [e] at this; exact absurd this.symm hm0
                  | cons x r => exact ⟨x, r, rfl⟩
                have hA := hidP (accept_any S (nm k) wr hI.out.1.f.g (by rw [nm_size]; decide))
                have hqk := hI.out.1.q k hk3
                rw [hxr] at hqk
                rw [hI.out.1.bt, acc_ok' hqk] at hA
                simp only [tgd] at hA
                have isk := hI.out.1.is k hk3
                rw [hxr] at isk
                obtain ⟨g, q, cp, hsl, hx0, hcap, hcm, hcut⟩ := isk.cut
                have hnb : nb (wv k) = some g := by rw [hsl]; rfl
                obtain ⟨nr, hnr⟩ : ∃ nr, r.length = nr := ⟨_, rfl⟩
                rw [hnr] at hcap hcut hsl
                have cB2 := (hI.out.1.c k hk3).1
                rw [hsl] at cB2
                have hn0 : (0 : Int) < (nr : Int) + 1 := by omega
                have hn1 : (1 : Int) ≤ (nr : Int) + 1 := by omega
                have hcm2 : (cp : Int) ≤ 9223372036854775807 := by unfold maxLen at hcm; omega
                have cn := hI.out.1.na k hk3
                have hids := hidP (And.intro hcut (And.intro hx0 (And.intro hsl (And.intro hnb (And.intro hnr hxr)))))
                clear hcut hx0 hnr hqk isk hsl hnb hxr cB1
                go_wp2_with fail
                refine hA.out.mono ?_
                rintro e W2 ⟨rfl, S2, G1, e2⟩
                obtain ⟨hcut, hx0, hsl, hnb, hnr, hxr⟩ := hids.out
                obtain ⟨V2, hV2⟩ : ∃ V2, W2.alloc (.cells #[.int .i64 x, .string (nm k)] 41) = V2 := ⟨_, rfl⟩
                have G2 := G1.then (u := V2) (by rw [← hV2]; exact (Below.refl _ _).alloc (Nat.le_refl _) _)
                have hgn := (hI.out.1.v1 k hk3 g hnb).2.1
                have y0 := G2.mv.cell (a := ⟨g, q, none⟩) hgn hx0
                have y1 : V2.cell? ⟨W2.heap.size, 0, none⟩ = some (.int .i64 x) := by rw [← hV2]; exact cell_at rfl rfl
                have y2 : V2.cell? ⟨W2.heap.size, 1, none⟩ = some (.string (nm k)) := by rw [← hV2]; exact cell_at rfl rfl
                have y3 := G2.mv.cell (a := ⟨A, k, none⟩) hI.out.1.a1.2 cn
                have y4 := G2.mv.cell (a := ⟨B, k, none⟩) hI.out.1.b1.2 cB2
                have hcutH : Hid (∀ W, Below V2.heap.size V2 W → ∃ v', v' = (.slice (if cp = 1 then some ⟨g, q, none⟩ else some ⟨g, q + 1, none⟩) nr (cp - 1)) ∧ W.cell? ⟨B, k, none⟩ = some (.slice (some ⟨g, q, none⟩) (nr + 1) cp) ∧ W.frozen? ⟨B, k, none⟩ = false ∧ Ls w bt A B (upF wv k v') (upF ws k r) S2 (W.setCell ⟨B, k, none⟩ v')) := fun W hb => by
                  have G3 := G2.then hb
                  have hcW := hcut.mv G3.mv (fun k2 hk2 e => by
                    have : k2 = g := by by_cases h : cp = 1 <;> simp [h, nb] at hk2 <;> exact hk2.symm
                    subst this; exact hgn e)
                  obtain ⟨t1, t2, t3⟩ := hI.out.1.turn hk3 G3 (fun i hi hik => by rw [e2]; dsimp only; exact upP_other _ _ (fun e => hik (nm_inj hi hk3 e))) (by rw [e2]; dsimp only; exact upP_at _ _ rfl) (by have := hI.out.1.ln k hk3; rw [hxr] at this; simp at this; omega) (Mv.refl _ _) hcW (.inl (by rw [hnb]; by_cases h : cp = 1 <;> simp [h, nb]))
                  exact ⟨_, rfl, by rw [t1, hsl], t2, t3⟩
                have hfin : Hid ((pl S2).last = last ∧ S2.c ≤ 10 + 5 * (j + 1)) := ⟨by rw [e2]; exact hI.out.2.1, by have := G1.c; have := hI.out.2.2; omega⟩
                clear hA G1 G2 e2 hI cu hcut hgn hx0 hids hsl hnb hnr hxr cn cB2
                go_wp2_with (rw [hV2])
                go_quiet (fail)
                obtain ⟨W6, hW6⟩ : ∃ W6, V2.drewN nq = W6 := ⟨_, rfl⟩
                rw [hW6]
                obtain ⟨v', hv', z1, z2, L4⟩ := hcutH.out W6 (by rw [← hW6]; exact below_drewN (Below.refl _ _) _)
                clear hW6 y0 y1 y2 y3 y4 hcutH
                obtain ⟨V5, hV5⟩ : ∃ V5, W6.setCell ⟨B, k, none⟩ v' = V5 := ⟨_, rfl⟩
                rw [hV5] at L4
                have L5 : Hid (Ls w bt A B (upF wv k v') (upF ws k r) S2 V5 ∧ (pl S2).last = last ∧ S2.c ≤ 10 + 5 * (j + 1)) := ⟨L4, hfin.out⟩
                clear L4 hfin
                by_cases hc1 : cp = 1
                · subst hc1
                  rw [if_pos rfl, Nat.sub_self] at hv'
                  subst hv'
                  clear hcap
                  go_wp2_with (rw [hV5])
                  go_loopw [14] (fun i wr => ∃ kk : Nat, kk ≤ 3 ∧ i = .int .i64 kk ∧ Hid (Ls w bt A B (upF wv k (.slice (some ⟨g, q, none⟩) nr 0)) (upF ws k r) S2 wr)) (fun i _ => 3 - (intOf i).toNat)
                  case atStart => exact ⟨0, by omega, rfl, L5.out.1⟩
                  case round =>
                    obtain ⟨kk, hkk, rfl, hJ⟩ := hrel
                    by_cases hltk : kk < 3
                    · have hltkI : (kk : Int) < 3 := by omega
                      have hkk0 : (0 : Int) ≤ (kk : Int) := by omega
                      obtain ⟨pp, cc, hvv⟩ := (hJ.out.is kk hltk).shape
                      obtain ⟨mm, hmm⟩ : ∃ mm, (((upF ws k r)) kk).length = mm := ⟨_, rfl⟩
                      rw [hmm] at hvv
                      have n1 := hJ.out.na kk hltk
                      have n2 := (hJ.out.c kk hltk).1
                      rw [hvv] at n2
                      have hvvH := hidP hvv
                      have hW : Hid (∀ W, Below wr.heap.size wr W → Calls Try.prog 23 #[.pointer (some ⟨bt, 0, none⟩), .string (nm kk)] W fun e W' => ∃ q9 c9, e = .returned (.slice q9 mm c9) ∧ Ls w bt A B (upF wv k (.slice (some ⟨g, q, none⟩) nr 0)) (upF ws k r) S2 W') := fun W hb => by
                        have hJW := hJ.out.below hb
                        have := waiting_len S2 (nm kk) W hJW.f.g (by rw [nm_size]; decide) mm (by rw [hJW.q kk hltk]; simp only [Option.getD_some, List.length_map]; exact hmm)
                        rw [hJW.bt] at this
                        exact this.mono (fun e W' ⟨q9, c9, he, hb9⟩ => ⟨q9, c9, he, hJW.below hb9⟩)
                      clear hJ hmm hvv
                      go_wp2_with fail
                      go_region_held3 (fun w' => w'.cell? ⟨A, kk, none⟩ = some (.string (nm kk)) ∧ w'.cell? ⟨B, kk, none⟩ = some (.slice pp mm cc))
                        (first
                          | exact ⟨n1, n2⟩
                          | exact ‹_ ∧ _›.1
                          | exact ‹_ ∧ _›.2
                          | assumption
                          | (simp only [World.cell?_drew]; exact ⟨n1, n2⟩)
                          | (have t1 := J9.na kk hltk; have t2 := (J9.c kk hltk).1; rw [hvvH.out] at t2; exact ⟨t1, t2⟩))
                        (first
                          | (go_at_call 23; refine (hW.out _ (Below.refl _ _).drew).mono ?_; rintro e W9 ⟨q9, c9, rfl, J9⟩))
                      have J9H := hidP J9
                      clear hW J9 n1 n2 hvvH
                      go_wp2_with fail
                      go_roundw
                      case rel => exact ⟨kk + 1, by omega, by push_cast; rfl, J9H.out⟩
                      case measure => simp [intOf]; omega
                    · obtain rfl : kk = 3 := by omega
                      have LE : Hid (Ls w bt A B (upF wv k (.slice (some ⟨g, q, none⟩) nr 0)) (upF ws k r) S2 wr ∧ (pl S2).last = last ∧ S2.c ≤ 10 + 5 * (j + 1)) := ⟨hJ.out, L5.out.2⟩
                      clear hJ L5
                      go_wp2_with fail
                      exact ⟨⟨j + 1, S2, _, _, last, by omega, by go_num, rfl, by omega, by push_cast; omega, LE⟩, by simp [intOf]; omega⟩
                · rw [if_neg hc1] at hv'
                  subst hv'
                  go_wp2_with (rw [hV5])
                  go_loopw [14] (fun i wr => ∃ kk : Nat, kk ≤ 3 ∧ i = .int .i64 kk ∧ Hid (Ls w bt A B (upF wv k (.slice (some ⟨g, q + 1, none⟩) nr (cp - 1))) (upF ws k r) S2 wr)) (fun i _ => 3 - (intOf i).toNat)
                  case atStart => exact ⟨0, by omega, rfl, L5.out.1⟩
                  case round =>
                    obtain ⟨kk, hkk, rfl, hJ⟩ := hrel
                    by_cases hltk : kk < 3
                    · have hltkI : (kk : Int) < 3 := by omega
                      have hkk0 : (0 : Int) ≤ (kk : Int) := by omega
                      obtain ⟨pp, cc, hvv⟩ := (hJ.out.is kk hltk).shape
                      obtain ⟨mm, hmm⟩ : ∃ mm, (((upF ws k r)) kk).length = mm := ⟨_, rfl⟩
                      rw [hmm] at hvv
                      have n1 := hJ.out.na kk hltk
                      have n2 := (hJ.out.c kk hltk).1
                      rw [hvv] at n2
                      have hvvH := hidP hvv
                      have hW : Hid (∀ W, Below wr.heap.size wr W → Calls Try.prog 23 #[.pointer (some ⟨bt, 0, none⟩), .string (nm kk)] W fun e W' => ∃ q9 c9, e = .returned (.slice q9 mm c9) ∧ Ls w bt A B (upF wv k (.slice (some ⟨g, q + 1, none⟩) nr (cp - 1))) (upF ws k r) S2 W') := fun W hb => by
                        have hJW := hJ.out.below hb
                        have := waiting_len S2 (nm kk) W hJW.f.g (by rw [nm_size]; decide) mm (by rw [hJW.q kk hltk]; simp only [Option.getD_some, List.length_map]; exact hmm)
                        rw [hJW.bt] at this
                        exact this.mono (fun e W' ⟨q9, c9, he, hb9⟩ => ⟨q9, c9, he, hJW.below hb9⟩)
                      clear hJ hmm hvv
                      go_wp2_with fail
                      go_region_held3 (fun w' => w'.cell? ⟨A, kk, none⟩ = some (.string (nm kk)) ∧ w'.cell? ⟨B, kk, none⟩ = some (.slice pp mm cc))
                        (first
                          | exact ⟨n1, n2⟩
                          | exact ‹_ ∧ _›.1
                          | exact ‹_ ∧ _›.2
                          | assumption
                          | (simp only [World.cell?_drew]; exact ⟨n1, n2⟩)
                          | (have t1 := J9.na kk hltk; have t2 := (J9.c kk hltk).1; rw [hvvH.out] at t2; exact ⟨t1, t2⟩))
                        (first
                          | (go_at_call 23; refine (hW.out _ (Below.refl _ _).drew).mono ?_; rintro e W9 ⟨q9, c9, rfl, J9⟩))
                      have J9H := hidP J9
                      clear hW J9 n1 n2 hvvH
                      go_wp2_with fail
                      go_roundw
                      case rel => exact ⟨kk + 1, by omega, by push_cast; rfl, J9H.out⟩
                      case measure => simp [intOf]; omega
                    · obtain rfl : kk = 3 := by omega
                      have LE : Hid (Ls w bt A B (upF wv k (.slice (some ⟨g, q + 1, none⟩) nr (cp - 1))) (upF ws k r) S2 wr ∧ (pl S2).last = last ∧ S2.c ≤ 10 + 5 * (j + 1)) := ⟨hJ.out, L5.out.2⟩
                      clear hJ L5
                      go_wp2_with fail
                      exact ⟨⟨j + 1, S2, _, _, last, by omega, by go_num, rfl, by omega, by push_cast; omega, LE⟩, by simp [intOf]; omega⟩
            · by_cases hfull : m = 16
              · subst hfull
                have L5 : Hid (Ls w bt A B wv ws S wr ∧ (pl S).last = last ∧ S.c ≤ 10 + 5 * (j + 1)) := ⟨hI.out.1, hI.out.2.1, by have := hI.out.2.2; omega⟩
                clear hI
                go_wp2_with fail
                go_loopw [14] (fun i wr => ∃ kk : Nat, kk ≤ 3 ∧ i = .int .i64 kk ∧ Hid (Ls w bt A B wv ws S wr)) (fun i _ => 3 - (intOf i).toNat)
                case atStart => exact ⟨0, by omega, rfl, L5.out.1⟩
                case round =>
                  obtain ⟨kk, hkk, rfl, hJ⟩ := hrel
                  by_cases hltk : kk < 3
                  · have hltkI : (kk : Int) < 3 := by omega
                    have hkk0 : (0 : Int) ≤ (kk : Int) := by omega
                    obtain ⟨pp, cc, hvv⟩ := (hJ.out.is kk hltk).shape
                    obtain ⟨mm, hmm⟩ : ∃ mm, ((ws) kk).length = mm := ⟨_, rfl⟩
                    rw [hmm] at hvv
                    have n1 := hJ.out.na kk hltk
                    have n2 := (hJ.out.c kk hltk).1
                    rw [hvv] at n2
                    have hvvH := hidP hvv
                    have hW : Hid (∀ W, Below wr.heap.size wr W → Calls Try.prog 23 #[.pointer (some ⟨bt, 0, none⟩), .string (nm kk)] W fun e W' => ∃ q9 c9, e = .returned (.slice q9 mm c9) ∧ Ls w bt A B wv ws S W') := fun W hb => by
                      have hJW := hJ.out.below hb
                      have := waiting_len S (nm kk) W hJW.f.g (by rw [nm_size]; decide) mm (by rw [hJW.q kk hltk]; simp only [Option.getD_some, List.length_map]; exact hmm)
                      rw [hJW.bt] at this
                      exact this.mono (fun e W' ⟨q9, c9, he, hb9⟩ => ⟨q9, c9, he, hJW.below hb9⟩)
                    clear hJ hmm hvv
                    go_wp2_with fail
                    go_region_held3 (fun w' => w'.cell? ⟨A, kk, none⟩ = some (.string (nm kk)) ∧ w'.cell? ⟨B, kk, none⟩ = some (.slice pp mm cc))
                      (first
                        | exact ⟨n1, n2⟩
                        | exact ‹_ ∧ _›.1
                        | exact ‹_ ∧ _›.2
                        | assumption
                        | (simp only [World.cell?_drew]; exact ⟨n1, n2⟩)
                        | (have t1 := J9.na kk hltk; have t2 := (J9.c kk hltk).1; rw [hvvH.out] at t2; exact ⟨t1, t2⟩))
                      (first
                        | (go_at_call 23; refine (hW.out _ (Below.refl _ _).drew).mono ?_; rintro e W9 ⟨q9, c9, rfl, J9⟩))
                    have J9H := hidP J9
                    clear hW J9 n1 n2 hvvH
                    go_wp2_with fail
                    go_roundw
                    case rel => exact ⟨kk + 1, by omega, by push_cast; rfl, J9H.out⟩
                    case measure => simp [intOf]; omega
                  · obtain rfl : kk = 3 := by omega
                    have LE : Hid (Ls w bt A B wv ws S wr ∧ (pl S).last = last ∧ S.c ≤ 10 + 5 * (j + 1)) := ⟨hJ.out, L5.out.2⟩
                    clear hJ L5
                    go_wp2_with fail
                    exact ⟨⟨j + 1, S, _, _, last, by omega, by go_num, rfl, by omega, by push_cast; omega, LE⟩, by simp [intOf]; omega⟩
              · have hm16 : m < 16 := by have := hI.out.1.ln k hk3; have := hvH.out.2; omega
                have hmI : (m : Int) < 16 := by omega
                have cn := hI.out.1.na k hk3
                have hwk : wv k = .slice p m c := by rw [hvH.out.1, hvH.out.2]
                have hC : Hid (∀ W, Below wr.heap.size wr W → Calls Try.prog 13 #[.pointer (some ⟨bt, 0, none⟩), .string (nm k), .string (nm k)] W fun e W' => e = .returned (.tuple #[.int .i64 (last + 1), .int .i64 0]) ∧ ∃ S', Goes S W S' W' 1 ∧ Ls w bt A B wv ws S W ∧ pl S' = ⟨upP (pl S).q (nm k) (some ((ws k ++ [last + 1]).map (tgd (nm k)))), (pl S).ms, last + 1⟩) := fun W hb => by
                  have hIW := hI.out.1.below hb
                  have := connect_any S (nm k) (nm k) W hIW.f.g (by rw [nm_size]; decide) hc9
                  rw [hIW.bt, conn_ok' (hIW.q k hk3) (by rw [nm_size]; decide) (by have := hvH.out.2; omega), hI.out.2.1] at this
                  exact this.mono (fun e W' ⟨he, S', g, ep⟩ => ⟨he, S', g, hIW, ep⟩)
                have hcc : Hid (S.c ≤ 10 + 5 * j) := hI.out.2.2
                have hwkH := hidP hwk
                clear hI hwk
                go_wp2_with fail
                go_region_held3 (fun w' => w'.cell? ⟨A, k, none⟩ = some (.string (nm k)))
                  (first
                    | assumption
                    | (simp only [World.cell?_drew]; assumption)
                    | exact G1.mv.cell (a := ⟨A, k, none⟩) I1.a1.2 (I1.na k hk3))
                  (first
                    | (go_at_call 13; refine (hC.out _ (Below.refl _ _).drew).mono ?_; rintro e W2 ⟨rfl, S2, G1, I1, e2⟩))
                obtain ⟨V2, hV2⟩ : ∃ V2, W2.alloc (.cells #[.int .i64 (last + 1)] 3) = V2 := ⟨_, rfl⟩
                have G2 := G1.then (u := V2) (by rw [← hV2]; exact (Below.refl _ _).alloc (Nat.le_refl _) _)
                have isV : IS V2 (wv k) (ws k) := (I1.is k hk3).mv G2.mv (fun x hx => (I1.v1 k hk3 x hx).2.1)
                have cB2 : W2.cell? ⟨B, k, none⟩ = some (.slice p m c) := by rw [← hwkH.out]; exact G1.mv.cell (a := ⟨B, k, none⟩) I1.b1.2 (I1.c k hk3).1
                obtain ⟨v', w4, hrun, hns, mv4, hat⟩ := isV.append (a := ⟨W2.heap.size, 0, none⟩) (s := last + 1) (c := 1) (by rw [← hV2]; exact cell_at rfl rfl) (by have := hvH.out.2; omega) 66
                obtain ⟨tB, tF, L4⟩ := I1.turn hk3 G2 (fun i hi hik => by rw [e2]; dsimp only; exact upP_other _ _ (fun e => hik (nm_inj hi hk3 e))) (by rw [e2]; dsimp only; exact upP_at _ _ rfl) (by have := hvH.out.2; simp; omega) mv4 hns hat
                obtain ⟨V5, hV5⟩ : ∃ V5, w4.setCell ⟨B, k, none⟩ v' = V5 := ⟨_, rfl⟩
                rw [hV5] at L4
                rw [hwkH.out] at hrun tB
                have cu5 := cuH.out V5 L4.f.b
                have L5 : Hid (Ls w bt A B (upF wv k v') (upF ws k (ws k ++ [last + 1])) S2 V5 ∧ (pl S2).last = last + 1 ∧ S2.c ≤ 10 + 5 * (j + 1)) := ⟨L4, by rw [e2], by have := G1.c; have := hcc.out; omega⟩
                obtain ⟨p4, c4, hv4⟩ := hns.shape
                obtain ⟨m4, hm4⟩ : ∃ m4, (ws k ++ [last + 1]).length = m4 := ⟨_, rfl⟩
                rw [hm4] at hv4
                subst hv4
                clear hm4
                clear hC G1 G2 e2 I1 isV hns mv4 hat L4 cn cB1 cu
                go_wp2_with (first | rw [hV2] | rw [hV5] | (at_builtin; refine wpList_append_run rfl _ _ 66 rfl _ _ _ _ rfl rfl hrun ?_))
                go_loopw [14] (fun i wr => ∃ kk : Nat, kk ≤ 3 ∧ i = .int .i64 kk ∧ Hid (Ls w bt A B (upF wv k (.slice p4 m4 c4)) (upF ws k (ws k ++ [last + 1])) S2 wr)) (fun i _ => 3 - (intOf i).toNat)
                case atStart => exact ⟨0, by omega, rfl, L5.out.1⟩
                case round =>
                  obtain ⟨kk, hkk, rfl, hJ⟩ := hrel
                  by_cases hltk : kk < 3
                  · have hltkI : (kk : Int) < 3 := by omega
                    have hkk0 : (0 : Int) ≤ (kk : Int) := by omega
                    obtain ⟨pp, cc, hvv⟩ := (hJ.out.is kk hltk).shape
                    obtain ⟨mm, hmm⟩ : ∃ mm, (((upF ws k (ws k ++ [last + 1]))) kk).length = mm := ⟨_, rfl⟩
                    rw [hmm] at hvv
                    have n1 := hJ.out.na kk hltk
                    have n2 := (hJ.out.c kk hltk).1
                    rw [hvv] at n2
                    have hvvH := hidP hvv
                    have hW : Hid (∀ W, Below wr.heap.size wr W → Calls Try.prog 23 #[.pointer (some ⟨bt, 0, none⟩), .string (nm kk)] W fun e W' => ∃ q9 c9, e = .returned (.slice q9 mm c9) ∧ Ls w bt A B (upF wv k (.slice p4 m4 c4)) (upF ws k (ws k ++ [last + 1])) S2 W') := fun W hb => by
                      have hJW := hJ.out.below hb
                      have := waiting_len S2 (nm kk) W hJW.f.g (by rw [nm_size]; decide) mm (by rw [hJW.q kk hltk]; simp only [Option.getD_some, List.length_map]; exact hmm)
                      rw [hJW.bt] at this
                      exact this.mono (fun e W' ⟨q9, c9, he, hb9⟩ => ⟨q9, c9, he, hJW.below hb9⟩)
                    clear hJ hmm hvv
                    go_wp2_with fail
                    go_region_held3 (fun w' => w'.cell? ⟨A, kk, none⟩ = some (.string (nm kk)) ∧ w'.cell? ⟨B, kk, none⟩ = some (.slice pp mm cc))
                      (first
                        | exact ⟨n1, n2⟩
                        | exact ‹_ ∧ _›.1
                        | exact ‹_ ∧ _›.2
                        | assumption
                        | (simp only [World.cell?_drew]; exact ⟨n1, n2⟩)
                        | (have t1 := J9.na kk hltk; have t2 := (J9.c kk hltk).1; rw [hvvH.out] at t2; exact ⟨t1, t2⟩))
                      (first
                        | (go_at_call 23; refine (hW.out _ (Below.refl _ _).drew).mono ?_; rintro e W9 ⟨q9, c9, rfl, J9⟩))
                    have J9H := hidP J9
                    clear hW J9 n1 n2 hvvH
                    go_wp2_with fail
                    go_roundw
                    case rel => exact ⟨kk + 1, by omega, by push_cast; rfl, J9H.out⟩
                    case measure => simp [intOf]; omega
                  · obtain rfl : kk = 3 := by omega
                    have LE : Hid (Ls w bt A B (upF wv k (.slice p4 m4 c4)) (upF ws k (ws k ++ [last + 1])) S2 wr ∧ (pl S2).last = (last + 1) ∧ S2.c ≤ 10 + 5 * (j + 1)) := ⟨hJ.out, L5.out.2⟩
                    clear hJ L5
                    go_wp2_with fail
                    exact ⟨⟨j + 1, S2, _, _, (last + 1), by omega, by go_num, rfl, by omega, by push_cast; omega, LE⟩, by simp [intOf]; omega⟩
          · obtain rfl : j = n := by omega
            have fin := hidP hI.out.1.f.b
            clear hI
            go_wp2_with fail
            go_ret
            exact ⟨rfl, fin.out⟩
end Go.Proofs.Ytppbdamlhcmlcaa
