/- GroupNotes: the walk. -/
import Derived.Test.YtjjffcgklhclgaaLN2
namespace Go.Proofs.Ytjjffcgklhclgaa
open Go.RowKit Go.Shelf
def eight : ByteArray := ⟨#[97, 98, 99, 100, 101, 102, 103, 104]⟩
theorem eight_at {k : Nat} (h : k < 8) : eight.extract k (k + 1) = nm k := by
  match k, h with
  | 0, _ => decide
  | 1, _ => decide
  | 2, _ => decide
  | 3, _ => decide
  | 4, _ => decide
  | 5, _ => decide
  | 6, _ => decide
  | 7, _ => decide
/-- Is that bit set? -/
def bitN (n k : Nat) : Bool := decide (((n : Int) / 2 ^ k).tmod 2 = 1)
theorem sh_any (n : Nat) {k : Nat} (hk : k < 8) : ∃ s : Int, (n : Int) / 2 ^ min k 8 = s ∧ (n : Int) / 2 ^ k = s ∧ (bitN n k = true → s.tmod 2 = 1) ∧ (bitN n k = false → s.tmod 2 = 0) := by
  refine ⟨(n : Int) / 2 ^ k, by rw [Nat.min_eq_left (by omega)], rfl, fun h => by simpa [bitN] using h, fun h => ?_⟩
  have h1 : ¬ ((n : Int) / 2 ^ k).tmod 2 = 1 := by simpa [bitN] using h
  have h0 : 0 ≤ (n : Int) / 2 ^ k := Int.ediv_nonneg (by omega) (Int.le_of_lt (Int.pow_pos (by omega)))
  rw [Int.tmod_eq_emod_of_nonneg h0] at h1 ⊢
  omega
set_option maxRecDepth 100000 in
set_option maxHeartbeats 400000 in
theorem notes_walk (a : Option Addr) (b o n cap : Nat) (us : List Nat) (n1 n2 : Nat) (w : World) (ha : 0 < n → a = some ⟨b, o, none⟩) (hl : us.length = n) (hel : ∀ (j u : Nat), us[j]? = some u → w.cell? ⟨b, o + j, none⟩ = some (.int .u8 (u : Nat))) (hub : ∀ u ∈ us, u ≤ 255) (hml : n ≤ maxLen) (_ : n1 ≤ 255) (_ : n2 ≤ 255) :
    Calls Try.prog 5 #[.slice a n cap, .int .u8 n1, .int .u8 n2] w fun e w' => e = .returned (.bool true) ∧ Below w.heap.size w w' := by
  have hK := hidP (known_any w)
  have haH := hidP ha
  have hlH := hidP hl
  have helH := hidP hel
  have hubH := hidP hub
  have hnm : (n : Int) ≤ 9223372036854775807 := by unfold maxLen at hml; omega
  clear ha hl hel hub hml
  by_cases h8 : 8 < n
  · have h8I : (8 : Int) < (n : Int) := by omega
    go_enter Try.func5, Try.ntmps5
    go_wp2_with fail
    refine hK.out.mono ?_
    rintro e V ⟨rfl, hbV⟩
    go_wp2_with fail
    go_ret
    exact ⟨rfl, hbV⟩
  · have h8I : decide ((8 : Int) < (n : Int)) = false := by simp; omega
    have h8J : (n : Int) ≤ 8 := by omega
    go_enter Try.func5, Try.ntmps5
    go_wp2_with fail
    refine hK.out.mono ?_
    rintro e V ⟨rfl, hbV⟩
    have hN := hidP (new_any V)
    go_wp2_with fail
    refine hN.out.mono ?_
    rintro e W1 ⟨rfl, hg1, hb1⟩
    have F1 := Fr.new hbV hg1 hb1
    obtain ⟨bt, hbt⟩ : ∃ bt, V.heap.size + 3 = bt := ⟨_, rfl⟩
    rw [hbt]
    have hW1 : Hid (∀ W2, W1.alloc (.cells #[.bool false, .bool false, .bool false, .bool false, .bool false, .bool false, .bool false, .bool false] 56) = W2 → Ls w bt W1.heap.size (fun _ => false) (st0 V.heap.size) W2) := by
      intro W2 e
      subst e
      exact ⟨F1.below ((Below.refl _ _).alloc (Nat.le_refl _) _), hbt, fun k hk => ⟨cell_at rfl (by match k, hk with | 0, _ => rfl | 1, _ => rfl | 2, _ => rfl | 3, _ => rfl | 4, _ => rfl | 5, _ => rfl | 6, _ => rfl | 7, _ => rfl), froz_new rfl⟩, fun q => by have := F1.g.lt q; omega, F1.b.size⟩
    have hex := @eight_at
    unfold eight at hex
    clear hN hg1 hb1 hbV hK F1
    go_wp2_with fail
    obtain ⟨W2, hW2⟩ : ∃ W2, W1.alloc (.cells #[.bool false, .bool false, .bool false, .bool false, .bool false, .bool false, .bool false, .bool false] 56) = W2 := ⟨_, rfl⟩
    have L2 := hidP (hW1.out W2 hW2)
    obtain ⟨D, hD⟩ : ∃ D, W1.heap.size = D := ⟨_, rfl⟩
    rw [hW2, hD]
    rw [hD] at L2
    clear hW1 hW2 hD
    go_loopw [11] (fun i wr => ∃ (j : Nat) (S : St), j ≤ 8 ∧ i = .int .i64 j ∧ Hid (Ls w bt D (fun _ => false) S wr ∧ S.c ≤ 3 * j ∧ S.ns = [] ∧ Q 8 (f1 j) S.l)) (fun i _ => 8 - (intOf i).toNat)
    case atStart => exact ⟨0, _, by omega, rfl, L2.out, Nat.le_refl _, rfl, Q.nil⟩
    case round =>
      obtain ⟨j, S, hj, rfl, hI⟩ := hrel
      by_cases hlt : j < 8
      · have hltI : (j : Int) < 8 := by omega
        have hx := hex hlt
        have hS8 := hidP (And.intro hI.out.1.bt hI.out.2.1)
        have hM := make_any S (nm j) wr hI.out.1.f.g (by rw [nm_size]; omega) (by have := hI.out.2.1; omega)
        rw [hI.out.1.bt, (hI.out.2.2.2.q1 (b := 0) hlt).1] at hM
        have hMH := hidP hM
        clear hM
        go_wp2_with fail
        refine hMH.out.mono ?_
        rintro e W3 ⟨rfl, S3, b3, G3, l3, n3⟩
        rw [if_pos trivial] at l3
        have L3 := hI.out.1.step G3
        have q3 := (hI.out.2.2.2.q1 (b := b3) hlt).2
        rw [← l3] at q3
        have hP := put_any S3 ((j : Int) + 2) (nm j) W3 L3.f.g (by rw [nm_size]; omega) (by omega) (by have := G3.c; have := hI.out.2.1; omega)
        rw [L3.bt, (q3.q2 (ns := S3.ns) hlt).1] at hP
        have hPH := hidP hP
        have L3H := hidP (And.intro L3 (And.intro q3 (And.intro (n3.trans hI.out.2.2.1) (show S3.c ≤ 3 * j + 1 by have := G3.c; have := hI.out.2.1; omega))))
        clear hP hMH L3 q3 n3 l3 G3 hI hS8
        go_wp2_with fail
        refine hPH.out.mono ?_
        rintro e W4 ⟨rfl, S4, G4, l4, n4⟩
        have L4 : Hid (Ls w bt D (fun _ => false) S4 W4 ∧ S4.c ≤ 3 * (j + 1) ∧ S4.ns = [] ∧ Q 8 (f1 (j + 1)) S4.l) := by
          have hq := L3H.out.2.1.q2 (ns := S3.ns) hlt
          refine ⟨L3H.out.1.step G4, by have := G4.c; have := L3H.out.2.2.2; omega, ?_, ?_⟩
          · rw [n4, hq.2.1]; exact L3H.out.2.2.1
          · rw [l4]; exact hq.2.2
        clear hPH G4 l4 n4 L3H hx
        go_wp2_with fail
        exact ⟨⟨j + 1, S4, by omega, by go_num, L4⟩, by simp [intOf]; omega⟩
      · obtain ⟨j8, hj8⟩ : ∃ j8, j = j8 := ⟨_, rfl⟩
        have hj8H : Hid (j8 = 8) := by show _ = _; omega
        have hge : ¬ (j : Int) < 8 := by omega
        subst hj8
        have hI' : Hid (Ls w bt D (fun _ => false) S wr ∧ S.c ≤ 24 ∧ S.ns = [] ∧ Q 8 (f1 8) S.l) := by
          have := hI.out
          rw [hj8H.out] at this
          exact this
        clear hI hlt hj hj8H
        obtain ⟨ag, hag⟩ : ∃ ag : Nat → Bool, Hid (ag = bitN n1) := ⟨_, rfl⟩
        obtain ⟨rm, hrm⟩ : ∃ rm : Nat → Bool, Hid (rm = bitN n2) := ⟨_, rfl⟩
        go_wp2_with fail
        go_loopw [9, 12] (fun v i wr => ∃ (j : Nat) (S : St) (N E : List Nat) (dn : Nat → Bool), j ≤ n ∧ i = .int .i64 j ∧ Hid (Ls w bt D dn S wr ∧ Nt w D v E S wr ∧ Pn ag rm dn N E S ∧ S.c ≤ 30 + 10 * j ∧ E.length ≤ j)) (fun _ i _ => n - (intOf i).toNat)
        case atStart => exact ⟨0, S, [], [], _, by omega, rfl, hI'.out.1, Nt.nil _ _ _ _, ⟨hI'.out.2.2.2.q8, hI'.out.2.2.1, fun k hk => by simp at hk, rfl⟩, by have := hI'.out.2.1; omega, Nat.le_refl _⟩
        case round =>
          clear hI'
          obtain ⟨j, S5, N, E, dn, hj, rfl, hI5⟩ := hrel
          by_cases hlt5 : j < n
          · have hltI5 : (j : Int) < (n : Int) := by omega
            obtain rfl := haH.out (by omega)
            obtain ⟨u, hu⟩ : ∃ u, us[j]? = some u := ⟨us[j]'(by have := hlH.out; omega), List.getElem?_eq_getElem _⟩
            have cu := (Mv.below (E := fun _ => False) hI5.out.1.f.b).cell (fun h => h) (helH.out j u hu)
            have hu255 := hubH.out u (List.mem_of_getElem? hu)
            obtain ⟨k, hk⟩ : ∃ k, u % 8 = k := ⟨_, rfl⟩
            have hk8 : k < 8 := by omega
            have hmod : ((u : Nat) : Int).tmod 8 = (k : Int) := by rw [Int.tmod_eq_emod_of_nonneg (by omega)]; omega
            have dk := hI5.out.1.d k hk8
            clear hu hu255 hk
            cases hdn : dn k with
            | true =>
              rw [hdn] at dk
              have dk1 := dk.1
              have fin : Hid (Ls w bt D dn S5 wr ∧ Nt w D u9 E S5 wr ∧ Pn ag rm dn N E S5 ∧ S5.c ≤ 30 + 10 * (j + 1) ∧ E.length ≤ j + 1) := ⟨hI5.out.1, hI5.out.2.1, hI5.out.2.2.1, by have := hI5.out.2.2.2.1; omega, by have := hI5.out.2.2.2.2; omega⟩
              clear dk hI5 hdn
              go_wp2_with fail
              exact ⟨⟨j + 1, S5, N, E, dn, by omega, by go_num, fin⟩, by simp [intOf]; omega⟩
            | false =>
              rw [hdn] at dk
              have dk1 := dk.1
              have dk2 := dk.2
              have hmD : Mv (fun x => x = D) wr (wr.setCell ⟨D, k, none⟩ (.bool true)) := (Mv.refl (fun x => x = D) _).setc (p := ⟨D, k, none⟩) (.inl rfl) _
              have L6 : Hid (Ls w bt D (upd dn k true) S5 (wr.setCell ⟨D, k, none⟩ (.bool true)) ∧ Nt w D u9 E S5 (wr.setCell ⟨D, k, none⟩ (.bool true))) :=
                ⟨hI5.out.1.mv hmD (fun x e => by subst e; exact ⟨hI5.out.1.db, hI5.out.1.dw⟩) (hI5.out.1.d.set hk8 true), ⟨hI5.out.2.1.n.mv hmD (fun x hx e => (hI5.out.2.1.b x hx).2.1 e), hI5.out.2.1.b⟩⟩
              have hP5 := hidP (And.intro hI5.out.2.2.1 (And.intro hI5.out.2.2.2.1 (And.intro hI5.out.2.2.2.2 hdn)))
              have hGo := gone_k L6.out.1.f.g hP5.out.1 hk8 hdn (by have := hP5.out.2.1; omega)
              rw [L6.out.1.bt] at hGo
              have hGoH := hidP hGo
              have hx := hex hk8
              clear dk hmD hI5 hGo hdn
              go_wp2_with fail
              refine hGoH.out.mono ?_
              rintro e W6 ⟨rfl, S6, G6, q6, n6⟩
              have L7 : Hid (Ls w bt D (upd dn k true) S6 W6 ∧ Nt w D u9 E S6 W6 ∧ Q 8 (mid ag rm dn k (some [])) S6.l ∧ S6.ns = (N ++ [k]).map nm ∧ S6.c ≤ 30 + 10 * j + 1) := ⟨L6.out.1.step G6, L6.out.2.step G6, q6, n6, by have := G6.c; have := hP5.out.2.1; omega⟩
              clear hGoH G6 q6 n6 L6 dk1 dk2 cu
              obtain ⟨s1, hs1, hs2, hr1⟩ := sh_any n1 hk8
              cases hb1 : bitN n1 k with
              | true =>
                have ht1 := hr1.1 hb1
                have hagk : Hid (ag k = true) := by show _ = _; rw [hag.out]; exact hb1
                have hPu := hidP (put_k L7.out.1.f.g L7.out.2.2.1 hk8 (by have := L7.out.2.2.2.2; omega))
                rw [L7.out.1.bt] at hPu
                clear hr1
                go_wp2_with fail
                refine hPu.out.mono ?_
                rintro e W7 ⟨rfl, S7, G7, q7, n7⟩
                have L8 : Hid (Ls w bt D (upd dn k true) S7 W7 ∧ Nt w D u9 E S7 W7 ∧ Q 8 (mid ag rm dn k (some [(k : Int) + 20])) S7.l ∧ S7.ns = (N ++ [k]).map nm ∧ S7.c ≤ 30 + 10 * j + 3) := ⟨L7.out.1.step G7, L7.out.2.1.step G7, q7, n7.trans L7.out.2.2.2.1, by have := G7.c; have := L7.out.2.2.2.2; omega⟩
                have hRe := hidP (rem_busy L8.out.1.f.g L8.out.2.2.1 (upd_same _ _ _) hk8 (by have := L8.out.2.2.2.2; omega))
                rw [L8.out.1.bt] at hRe
                clear hPu G7 q7 n7 L7
                go_wp2_with fail
                refine hRe.out.mono ?_
                rintro e W8 ⟨rfl, S8, G8, l8, n8⟩
                have fin : Hid (Ls w bt D (upd dn k true) S8 W8 ∧ Nt w D u9 E S8 W8 ∧ Pn ag rm (upd dn k true) (N ++ [k]) E S8 ∧ S8.c ≤ 30 + 10 * (j + 1) ∧ E.length ≤ j + 1) :=
                  ⟨L8.out.1.step G8, L8.out.2.1.step G8, hP5.out.1.next hk8 hP5.out.2.2.2 (by rw [l8]; exact L8.out.2.2.1) (by unfold fN; rw [upd_same, hagk.out]; rfl) (n8.trans L8.out.2.2.2.1) (.inr ⟨rfl, rfl⟩), by have := G8.c; have := L8.out.2.2.2.2; omega, by have := hP5.out.2.2.1; omega⟩
                clear hRe G8 l8 n8 L8 hagk hP5 hb1
                go_wp2_with fail
                exact ⟨⟨j + 1, S8, N ++ [k], E, upd dn k true, by omega, by go_num, fin⟩, by simp [intOf]; omega⟩
              | false =>
                have ht1 := hr1.2 hb1
                have hagk : Hid (ag k = false) := by show _ = _; rw [hag.out]; exact hb1
                clear hr1 hb1
                obtain ⟨t1, ht2, ht3, hr2⟩ := sh_any n2 hk8
                cases hb2 : bitN n2 k with
                | true =>
                  have ht4 := hr2.1 hb2
                  have hrmk : Hid (rm k = true) := by show _ = _; rw [hrm.out]; exact hb2
                  have hRe := hidP (rem_k L7.out.1.f.g L7.out.2.2.1 L7.out.2.2.2.1 hP5.out.1.nk hk8 hP5.out.2.2.2 (by have := L7.out.2.2.2.2; omega))
                  rw [L7.out.1.bt] at hRe
                  clear hr2 hb2
                  go_wp2_with fail
                  refine hRe.out.mono ?_
                  rintro e W8 ⟨rfl, S8, G8, q8, n8⟩
                  have fin : Hid (Ls w bt D (upd dn k true) S8 W8 ∧ Nt w D u9 E S8 W8 ∧ Pn ag rm (upd dn k true) N E S8 ∧ S8.c ≤ 30 + 10 * (j + 1) ∧ E.length ≤ j + 1) :=
                    ⟨L7.out.1.step G8, L7.out.2.1.step G8, hP5.out.1.next hk8 hP5.out.2.2.2 q8 (by unfold fN; rw [upd_same, hagk.out, hrmk.out]; rfl) n8 (.inl ⟨rfl, rfl⟩), by have := G8.c; have := L7.out.2.2.2.2; omega, by have := hP5.out.2.2.1; omega⟩
                  clear hRe G8 q8 n8 L7 hagk hrmk hP5
                  go_wp2_with fail
                  exact ⟨⟨j + 1, S8, N, E, upd dn k true, by omega, by go_num, fin⟩, by simp [intOf]; omega⟩
                | false =>
                  have ht4 := hr2.2 hb2
                  have hrmk : Hid (rm k = false) := by show _ = _; rw [hrm.out]; exact hb2
                  obtain ⟨W, hW⟩ : ∃ W, W6.alloc (.cells #[.string (nm k)] 9) = W := ⟨_, rfl⟩
                  have hsW : W.cell? ⟨W6.heap.size, 0, none⟩ = some (.string (nm k)) := by rw [← hW]; exact cell_at rfl rfl
                  have hbW : Below W6.heap.size W6 W := by rw [← hW]; exact (Below.refl _ _).alloc (Nat.le_refl _) _
                  obtain ⟨v', w4, hrun, hns, mv4, hat⟩ := (L7.out.2.1.n.mv (E := fun _ => False) (Mv.below hbW) (fun _ _ h => h)).append (c := 1) hsW (by have := hP5.out.2.2.1; rw [List.length_map]; omega) 28
                  have fin : Hid (Ls w bt D (upd dn k true) S6 w4 ∧ Nt w D v' (E ++ [k]) S6 w4 ∧ Pn ag rm (upd dn k true) (N ++ [k]) (E ++ [k]) S6 ∧ S6.c ≤ 30 + 10 * (j + 1) ∧ (E ++ [k]).length ≤ j + 1) := by
                    have hLW := L7.out.1.mv (E := fun _ => False) (Mv.below hbW) (fun x h => absurd h id) (L7.out.1.d.blk (hbW.block D L7.out.1.d.lt))
                    refine ⟨hLW.mv mv4 (fun x hx => ⟨(L7.out.2.1.b x hx).1, (L7.out.2.1.b x hx).2.2⟩) (hLW.d.blk (mv4.block D hLW.d.lt (fun q => (L7.out.2.1.b D q).2.1 rfl))), ⟨by rw [List.map_append]; exact hns, fun x hx => ?_⟩, hP5.out.1.next hk8 hP5.out.2.2.2 L7.out.2.2.1 (by unfold fN; rw [upd_same, hagk.out, hrmk.out]; rfl) L7.out.2.2.2.1 (.inr ⟨rfl, rfl⟩), by have := L7.out.2.2.2.2; omega, by have := hP5.out.2.2.1; simp; omega⟩
                    rcases hat with q | ⟨y, q1, q2⟩
                    · exact L7.out.2.1.b x (q ▸ hx)
                    · rw [hx] at q1
                      cases q1
                      have := hbW.size
                      have h3 := L7.out.1.d.lt
                      have h4 := L7.out.1.f.b.size
                      exact ⟨fun q => by have := L7.out.1.f.g.lt q; omega, by omega, by omega⟩
                  obtain ⟨p', m', c', rfl⟩ := hns.shape
                  clear hr2 hb2 hbW hsW hns mv4 hat L7 hP5 hagk hrmk
                  go_wp2_with (first | rw [hW] | (at_builtin; refine wpList_append_run rfl _ _ 28 rfl _ _ _ _ rfl rfl hrun ?_))
                  exact ⟨⟨j + 1, S6, N ++ [k], E ++ [k], upd dn k true, by omega, by go_num, fin⟩, by simp [intOf]; omega⟩
          · have hge5 : ¬ (j : Int) < (n : Int) := by omega
            obtain ⟨p, m, c, hv⟩ := hI5.out.2.1.n.shape
            have hm : m = E.length := by
              have := hI5.out.2.1.n.len
              rw [hv, List.length_map] at this
              exact this
            obtain ⟨F, hF⟩ : ∃ F, fN ag rm dn = F := ⟨_, rfl⟩
            have hI6 : Hid (Ls w bt D dn S5 wr ∧ Nt w D (.slice p m c) E S5 wr ∧ Q 8 F S5.l ∧ S5.ns = N.map nm ∧ (∀ k ∈ N, k < 8) ∧ N.filter (fun k => decide ((F k).getD [] = [])) = E ∧ S5.c ≤ 1000 ∧ m = E.length ∧ m ≤ 8) := by
              have := hI5.out
              rw [hv] at this
              refine ⟨this.1, this.2.1, by rw [← hF]; exact this.2.2.1.q, this.2.2.1.ns, fun k hk => (this.2.2.1.nk k hk).1, by rw [← hF]; exact this.2.2.1.e, by have := this.2.2.2.1; omega, hm, by have := this.2.2.2.2; omega⟩
            have hm8 : m ≤ 8 := hI6.out.2.2.2.2.2.2.2.2
            subst hv
            clear hI5 hm hF hag hrm
            go_wp2_with fail
            go_loopw [14] (fun i wr => ∃ (q : Nat) (S : St) (N : List Nat), q ≤ m ∧ i = .int .i64 q ∧ Hid (Ls w bt D dn S wr ∧ Nt w D (.slice p m c) E S wr ∧ Q 8 F S.l ∧ S.ns = N.map nm ∧ (∀ k ∈ N, k < 8) ∧ N.filter (fun k => decide ((F k).getD [] = [])) = E.drop q ∧ S.c ≤ 1000 ∧ m = E.length)) (fun i _ => m - (intOf i).toNat)
            case atStart => exact ⟨0, S5, N, by omega, rfl, hI6.out.1, hI6.out.2.1, hI6.out.2.2.1, hI6.out.2.2.2.1, hI6.out.2.2.2.2.1, hI6.out.2.2.2.2.2.1, hI6.out.2.2.2.2.2.2.1, hI6.out.2.2.2.2.2.2.2.1⟩
            case round =>
              clear hI6
              obtain ⟨q, S6, N6, hq, rfl, hI7⟩ := hrel
              have hz : ∀ x ∈ S6.ns, x.size ≤ 1000 := fun x hx => by
                rw [hI7.out.2.2.2.1] at hx
                obtain ⟨k, _, rfl⟩ := List.mem_map.1 hx
                rw [nm_size]; omega
              have hEm := emptied_any S6 wr hI7.out.1.f.g hz
              rw [hI7.out.1.bt, hI7.out.2.2.2.1] at hEm
              have hEp := hI7.out.2.2.1.emp (by omega) N6 hI7.out.2.2.2.2.1 _ hI7.out.2.2.2.2.2.1
              clear hz
              by_cases hlt7 : q < m
              · have hltI7 : (q : Int) < (m : Int) := by omega
                have hqE : q < E.length := by have := hI7.out.2.2.2.2.2.2.2; omega
                obtain ⟨N7, he1, he2, he3⟩ := hEp.2 E[q] (E.drop (q + 1)) (List.drop_eq_getElem_cons hqE)
                rw [he1] at hEm
                simp only [ifS, Option.getD_some, Option.isSome_some] at hEm
                obtain ⟨g, o2, cap2, hv2, hg2, hcap2, hmx2, hcells, hsp⟩ := hI7.out.2.1.n.some (by intro h; rw [List.map_eq_nil_iff] at h; rw [h] at hqE; simp at hqE)
                injection hv2 with hp2 hm2 hc2
                subst hp2
                obtain ⟨x, hx⟩ : ∃ x, nm E[q] = x := ⟨_, rfl⟩
                have ce : wr.cell? ⟨g, o2 + q, none⟩ = some (.string x) := hcells q x (by rw [List.getElem?_map, List.getElem?_eq_getElem hqE, ← hx]; rfl)
                rw [hx] at hEm
                have hEmH := hidP hEm
                have hfr : Hid (nb (Value.slice (some ⟨g, o2, none⟩) m c) = some g) := rfl
                have he23 := hidP (And.intro he2 he3)
                clear hEm hEp he1 he2 he3 hcells hsp hm2 hc2 hmx2 hcap2 hx hqE
                go_wp2_with fail
                refine hEmH.out.mono ?_
                rintro e W8 ⟨rfl, S8, G8, l8, n8⟩
                have ce8 : W8.cell? ⟨g, o2 + q, none⟩ = some (.string x) := (World.cell?_of_block (G8.beside (k := g) (cell_lt ce) (hI7.out.2.1.b g hfr.out).1).1).trans ce
                have fin : Hid (Ls w bt D dn S8 W8 ∧ Nt w D (.slice (some ⟨g, o2, none⟩) m c) E S8 W8 ∧ Q 8 F S8.l ∧ S8.ns = N7.map nm ∧ (∀ k ∈ N7, k < 8) ∧ N7.filter (fun k => decide ((F k).getD [] = [])) = E.drop (q + 1) ∧ S8.c ≤ 1000 ∧ m = E.length) :=
                  ⟨hI7.out.1.step G8, hI7.out.2.1.step G8, by rw [l8]; exact hI7.out.2.2.1, n8, fun k hk => hI7.out.2.2.2.2.1 k (he23.out.2 k hk), he23.out.1, by have := G8.c; have := hI7.out.2.2.2.2.2.2.1; omega, hI7.out.2.2.2.2.2.2.2⟩
                clear hEmH G8 l8 n8 hI7 he23 ce hfr
                go_wp2_with fail
                exact ⟨⟨q + 1, S8, N7, by omega, by go_num, fin⟩, by simp [intOf]; omega⟩
              · have hge7 : ¬ (q : Int) < (m : Int) := by omega
                have hd : E.drop q = [] := by
                  have := hI7.out.2.2.2.2.2.2.2
                  exact List.drop_eq_nil_of_le (by omega)
                rw [hEp.1 hd] at hEm
                simp only [ifS, Option.getD_none, Option.isSome_none, noName] at hEm
                have hEmH := hidP hEm
                clear hEm hEp hd
                go_wp2_with fail
                refine hEmH.out.mono ?_
                rintro e W8 ⟨rfl, S8, G8, l8, n8⟩
                have fin := hidP (hI7.out.1.step G8).f.b
                clear hEmH G8 l8 n8 hI7
                go_wp2_with fail
                go_ret
                exact ⟨rfl, fin.out⟩
end Go.Proofs.Ytjjffcgklhclgaa
