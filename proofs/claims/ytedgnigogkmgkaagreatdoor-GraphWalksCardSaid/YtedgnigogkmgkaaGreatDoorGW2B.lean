/- GraphWalks: the walk. -/
import Derived.Test.YtedgnigogkmgkaaGreatDoorGW1B
namespace Go.Proofs.YtedgnigogkmgkaaGreatDoor
open Go.RowKit Go.Shelf Go.Lib
set_option maxRecDepth 100000 in
set_option maxHeartbeats 8000000 in
theorem walks_walk (a : Option Addr) (b o n cap : Nat) (us : List Nat) (m : Nat) (w : World) (hg : GlN w) (ha : 0 < n → a = some ⟨b, o, none⟩) (hl : us.length = n) (hel : ∀ (j u : Nat), us[j]? = some u → w.cell? ⟨b, o + j, none⟩ = some (.int .u8 (u : Nat))) (hub : ∀ u ∈ us, u ≤ 255) (hml : n ≤ maxLen) (hm : m ≤ 255) :
    Calls Tryz.prog 3 #[.slice a n cap, .int .u8 (m : Nat)] w fun e w' => e = .returned (.bool true) ∧ Below w.heap.size w w' := by
  have hkn := known_any w hg
  have hgl := hidP hg
  have haH := hidP ha
  have hlH := hidP hl
  have hubH := hidP hub
  have helH := hidP hel
  have hml' : n ≤ 9223372036854775807 := by unfold maxLen at hml; omega
  clear hg ha hl hub hel hml
  go_enter Tryz.func3, Tryz.ntmps3
  go_wp2_with fail
  refine hkn.mono ?_
  rintro e w0 ⟨rfl, hb0⟩
  have b0H := hidP hb0
  have hg0H := hidP (hgl.out.below hb0)
  have hel0 : Hid (∀ (j u : Nat), us[j]? = some u → w0.cell? ⟨b, o + j, none⟩ = some (.int .u8 (u : Nat))) := fun j u hj => (Mv.below (E := fun _ => False) hb0).cell (fun q => q) (helH.out j u hj)
  have hnew := new_any w0
  clear hkn hb0 hgl helH
  by_cases h1 : n < 1
  · as_aux_lemma =>
      have h1I : (n : Int) < 1 := by omega
      go_wp2_with fail
      go_ret
      exact ⟨rfl, b0H.out⟩
  by_cases h16 : 16 < n
  · as_aux_lemma =>
      have h1I : ¬ (n : Int) < 1 := by omega
      have h1d : decide ((n : Int) < 1) = false := decide_eq_false h1I
      have h16I : (16 : Int) < (n : Int) := by omega
      go_wp2_with fail
      go_ret
      exact ⟨rfl, b0H.out⟩
  have h1I : ¬ (n : Int) < 1 := by omega
  have h1d : decide ((n : Int) < 1) = false := decide_eq_false h1I
  have h16I : ¬ (16 : Int) < (n : Int) := by omega
  have h16d : decide ((16 : Int) < (n : Int)) = false := decide_eq_false h16I
  obtain rfl := haH.out (by omega)
  have hn0 : (n : Int) ≠ 0 := by omega
  have hn0' : ((n : Int) == 0) = false := by simp; omega
  go_wp2_with fail
  refine hnew.mono ?_
  rintro e w1 ⟨S, rfl, hG, hge, hS0, hb1⟩
  obtain ⟨gb, hgb⟩ : ∃ gb, S.gb = gb := ⟨_, rfl⟩
  obtain ⟨B, hB⟩ : ∃ B, w0.heap.size = B := ⟨_, rfl⟩
  have hI0 : Hid (∃ S L, GI B gb 0 w0 w1 S L us) := by
    refine ⟨S, [], hG, hgb, by omega, Wk.nil us, fun k hk => by have := hge k hk; omega, hB, ?_⟩
    rw [← hB]; exact hb1
  have glt : 0 < B ∧ 1 < B := by rw [← hB]; exact hg0H.out.lt
  rw [hgb]
  clear hnew hG hge hS0 hb1 hgb
  go_wp2_with fail
  go_loopw [7] (fun i wr => ∃ k : Nat, k ≤ n ∧ i = .int .i64 k ∧ Hid (∃ S L, GI B gb k w0 wr S L us)) (fun i _ => n - (intOf i).toNat)
  case atStart => exact ⟨0, by omega, rfl, hI0⟩
  case round =>
    obtain ⟨i, hi, rfl, hI⟩ := hrel
    clear hI0
    obtain ⟨S, L, hF⟩ := hI.out
    by_cases hlt : i < n
    · as_aux_lemma =>
        have hltI : (i : Int) < (n : Int) := by omega
        obtain ⟨u, hu⟩ : ∃ u, us[i]? = some u := ⟨_, List.getElem?_eq_getElem (by rw [hlH.out]; exact hlt)⟩
        have hu2 := hubH.out u (List.mem_of_getElem? hu)
        have hcu := bcell (show Below w0.heap.size w0 wr by rw [hB]; exact hF.bl) (cell_lt (hel0.out i u hu)) (hel0.out i u hu)
        obtain ⟨K, hK⟩ : ∃ K, Tt us i = K := ⟨_, rfl⟩
        have hKn : K < n := by rw [← hK, ← hlH.out]; exact Tt_lt (by rw [hlH.out]; omega) i
        have hkI : (u : Int) % (n : Int) = (K : Nat) := by
          rw [← hK]; unfold Tt; rw [hu, hlH.out]; simp
        have hK16 : (K : Int) < 16 := by omega
        obtain ⟨W2, hW2⟩ : ∃ W2, wr.alloc (.cells #[.string (nmW K)] 9) = W2 := ⟨_, rfl⟩
        obtain ⟨B2, hB2⟩ : ∃ B2, wr.heap.size = B2 := ⟨_, rfl⟩
        have b2 : Below wr.heap.size wr W2 := by rw [← hW2]; exact (Below.refl _ _).alloc (Nat.le_refl _) _
        have cb : W2.cell? ⟨B2, 0, none⟩ = some (.string (nmW K)) := by rw [← hW2]; exact cell_at hB2 rfl
        have s2 : W2.heap.size = B2 + 1 := by rw [← hW2]; simp [hB2]
        have htg := target_any i (by omega) (some ⟨B2, 0, none⟩) 1 1 W2
        have hFH := hidP hF
        have cbH := hidP (And.intro cb (And.intro b2 s2))
        unfold nmW ltrW tgt at hW2
        have hKH := hidP hK
        clear hu hF hI b2 cb s2 hK
        go_wp2_with (first | rw [hB2] | rw [hW2])
        refine htg.mono ?_
        rintro e V ⟨rfl, bV⟩
        obtain ⟨cb, b2, s2⟩ := cbH.out
        have hF2 := (hFH.out.below b2).below bV
        have cV := (Mv.below (E := fun _ => False) bV).cell (fun q => q) cb
        have hKis : isN (nmW K) = true := nmW_is ⟨K, by omega⟩
        have hiis : isN (nmW i) = true := nmW_is ⟨i, by omega⟩
        have hadd := add_new S L (litT (nmW i) (.slice (some ⟨B2, 0, none⟩) 1 1)) (unT (nmW i) [nmW K] (.slice (some ⟨B2, 0, none⟩) 1 1)) V hF2.g (litT_uv V _ _ _ (NR.one1 cV)) hiis (hF2.wk.no (by omega)) (by rw [hF2.wk.len]; omega) (relT _ _ _ (isN_le hKis)) (by rw [tolT _ _ _ hKis]; have := tolW_le (nmW i) (nmW K); have := hF2.c; omega) (hg0H.out.below (by rw [hB]; exact hF2.bl)) (fun q => by have := hF2.lo _ q; omega) (fun q => by have := hF2.lo _ q; omega) (fun b hb q => by
          have h1 := litT_ubk hb
          simp [rbk] at h1
          have := hFH.out.g.lt q
          omega)
        rw [hF2.hgb] at hadd
        have hF2H := hidP hF2
        obtain ⟨vs, hvs⟩ : ∃ vs, litT (nmW i) (.slice (some ⟨B2, 0, none⟩) 1 1) = vs := ⟨_, rfl⟩
        rw [hvs] at hadd ⊢
        clear htg bV cb b2 s2 hF2 cV cbH hFH hvs
        go_wp2_with fail
        refine hadd.mono ?_
        rintro e w5 ⟨rfl, S', cs, hG5, hgo5, _⟩
        have hI5 : Hid (∃ S L, GI B gb (i + 1) w0 w5 S L us) := by
          have hK := hKH.out
          subst hK
          exact ⟨S', _, hF2H.out.add hKis hG5 hgo5⟩
        clear hadd hG5 hgo5 hF2H
        go_wp2_with fail
        exact ⟨⟨i + 1, by omega, by go_num, hI5⟩, by simp [intOf]; omega⟩
    · obtain rfl : i = n := by omega
      clear hI
      have hltI : ¬ (i : Int) < (i : Int) := by omega
      obtain ⟨D, hD⟩ : ∃ D, wr.heap.size = D := ⟨_, rfl⟩
      obtain ⟨WD, hWD⟩ : ∃ WD, wr.alloc (.cells #[.bool false, .bool false, .bool false, .bool false, .bool false, .bool false, .bool false, .bool false, .bool false, .bool false, .bool false, .bool false, .bool false, .bool false, .bool false, .bool false] 32) = WD := ⟨_, rfl⟩
      have bD : Below wr.heap.size wr WD := by rw [← hWD]; exact (Below.refl _ _).alloc (Nat.le_refl _) _
      have hFD := hidP (hF.below bD)
      obtain ⟨r, hr⟩ : ∃ r, m % i = r := ⟨_, rfl⟩
      have hrn : r < i := by rw [← hr]; exact Nat.mod_lt _ (by omega)
      have hrI : (m : Int) % (i : Int) = (r : Nat) := by rw [← hr]; simp
      have hIB : Hid (IB D 0 r us WD WD fun _ => false) := by
        refine ⟨fun j => ⟨fun q => (by cases q), fun ⟨k, hk, _⟩ => (by omega)⟩, fun j hj => ?_, fun j => by rw [← hWD, ← hD]; exact World.frozen?_alloc_new wr _ _ j, Mv.refl _ _⟩
        rw [← hWD]
        refine cell_at hD ?_
        have key : j = 0 ∨ j = 1 ∨ j = 2 ∨ j = 3 ∨ j = 4 ∨ j = 5 ∨ j = 6 ∨ j = 7 ∨ j = 8 ∨ j = 9 ∨ j = 10 ∨ j = 11 ∨ j = 12 ∨ j = 13 ∨ j = 14 ∨ j = 15 := by omega
        rcases key with rfl | rfl | rfl | rfl | rfl | rfl | rfl | rfl | rfl | rfl | rfl | rfl | rfl | rfl | rfl | rfl <;> rfl
      have sD : WD.heap.size = D + 1 := by rw [← hWD]; simp [hD]
      have sDH := hidP sD
      have hGlt : Hid ((∀ k, hasG S k → k < D) ∧ (∀ p ∈ L, ∀ b, ubk p.1 b → b < D) ∧ B ≤ D) := ⟨fun k hk => by rw [← hD]; exact hF.g.lt hk, fun p hp b hb => by rw [← hD]; exact (hF.g.uv p hp).1.lt hb, by have := hF.bl.size; omega⟩
      have helD : Hid (∀ (j u : Nat), us[j]? = some u → WD.cell? ⟨b, o + j, none⟩ = some (.int .u8 (u : Nat)) ∧ b < D) := fun j u hj => by
        have h1 := (bcell (show Below w0.heap.size w0 wr by rw [hB]; exact hF.bl) (cell_lt (hel0.out j u hj)) (hel0.out j u hj))
        exact ⟨(Mv.below (E := fun _ => False) bD).cell (fun q => q) h1, by rw [← hD]; exact cell_lt h1⟩
      clear hF bD sD
      go_wp2_with (first | rw [hD] | rw [hWD])
      go_loopw [10] (fun x wr => ∃ (k : Nat) (bb : Nat → Bool), x = .int .i64 (itN (Tt us) k r : Nat) ∧ Hid (IB D k r us WD wr bb)) (fun _ wr => YtedgnigogkmgkaaGreatDoor.msr D wr)
      case atStart => exact ⟨0, fun _ => false, rfl, hIB⟩
      case round =>
        obtain ⟨k, bb, rfl, hI⟩ := hrel
        clear hIB
        obtain ⟨at_, hat⟩ : ∃ at_, itN (Tt us) k r = at_ := ⟨_, rfl⟩
        have hati : at_ < i := by rw [← hat]; have h := itN_lt (f := Tt us) (n := i) (fun j => by rw [← hlH.out]; exact Tt_lt (by rw [hlH.out]; omega) j) hrn k; exact h
        have hatI : (at_ : Int) < 16 := by omega
        have hcb := hI.out.cell at_ (by omega)
        have hfb := hI.out.fro at_
        rw [hat]
        cases hbb : bb at_ with
        | false =>
          rw [hbb] at hcb
          obtain ⟨hst1, hst2⟩ := hI.out.step (by rw [hat]; omega) (by rw [hat]; exact hbb)
          rw [hat] at hst1 hst2
          obtain ⟨u, hu⟩ : ∃ u, us[at_]? = some u := ⟨_, List.getElem?_eq_getElem (by rw [hlH.out]; exact hati)⟩
          have hu2 := hubH.out u (List.mem_of_getElem? hu)
          obtain ⟨hcu0, hbD⟩ := helD.out at_ u hu
          obtain ⟨WS, hWS⟩ : ∃ WS, wr.setCell ⟨D, at_, none⟩ (.bool true) = WS := ⟨_, rfl⟩
          rw [hWS] at hst1 hst2
          have hcu := hst1.mv.cell (a := ⟨b, o + at_, none⟩) (by show ¬ b = D; omega) hcu0
          have hkI : (u : Int) % (i : Int) = (itN (Tt us) (k + 1) r : Nat) := by
            show _ = ((Tt us (itN (Tt us) k r) : Nat) : Int)
            rw [hat]; unfold Tt; rw [hu, hlH.out]; simp
          have hI2 := hidP hst1
          have hms := hidP hst2
          clear hI hst1 hst2 hu hcu0 hbb
          go_wp2_with (rw [hWS])
          exact ⟨⟨k + 1, _, by rw [hkI], hI2⟩, hms.out⟩
        | true =>
          rw [hbb] at hcb
          have hInb := hidP (hI.out.done (by rw [hat]; exact hbb))
          have hcells : Hid (∀ j, j < 16 → wr.cell? ⟨D, j, none⟩ = some (.bool (bb j))) := hI.out.cell
          have hm5 := hI.out.mv
          have s5 : Hid (D < wr.heap.size) := by show D < _; have := hm5.size; have := sDH.out; omega
          have hF5 : Hid (GI B gb i w0 wr S L us) := hFD.out.upto hGlt.out.2.2 hGlt.out.1 hGlt.out.2.1 (hm5.toBelow (by have := sDH.out; omega) (fun k hk q => by omega))
          obtain ⟨w5, hw5⟩ : ∃ w5, w5 = wr := ⟨_, rfl⟩
          have hI3 : Hid (LW D w5 wr bb 0 (.slice none 0 0) (.slice none 0 0)) := ⟨.inl ⟨rfl, rfl⟩, .inl ⟨rfl, rfl⟩, fun k hk => (by cases hk), fun k hk => (by cases hk), fun k hk => (by cases hk), by rw [hw5]; exact Below.refl _ _⟩
          rw [← hw5] at hcells s5 hF5
          clear hI hm5 hbb hfb hw5
          go_wp2_with fail
          clear hcb
          go_loopw [13, 11, 12] (fun x vw vg wr => ∃ (j : Nat) (pw : Option Addr) (nw cw : Nat) (pg : Option Addr) (ng cg : Nat), j ≤ i ∧ x = .int .i64 j ∧ vw = .slice pw nw cw ∧ vg = .slice pg ng cg ∧ Hid (LW D w5 wr bb j (.slice pw nw cw) (.slice pg ng cg))) (fun x _ _ _ => i - (intOf x).toNat)
          case atStart => exact ⟨0, none, 0, 0, none, 0, 0, by omega, rfl, rfl, rfl, hI3⟩
          case round =>
            obtain ⟨j, pw, nw, cw, pg, ng, cg, hj, rfl, rfl, rfl, hI⟩ := hrel
            clear hI3
            by_cases hlt3 : j < i
            · have hltI3 : (j : Int) < (i : Int) := by omega
              have hj16 : (j : Int) < 16 := by omega
              have hcb := bcell hI.out.bl (by show D < _; omega) (hcells.out j (by omega))
              obtain ⟨B2, hB2⟩ : ∃ B2, wr.heap.size = B2 := ⟨_, rfl⟩
              obtain ⟨x, hx⟩ : ∃ x, nmW j = x := ⟨_, rfl⟩
              have hx' := hx
              unfold nmW ltrW tgt at hx'
              cases hbb : bb j with
              | true =>
                rw [hbb] at hcb
                have hz : (pick bb j).length = nw := by
                  obtain ⟨p', c', e'⟩ := hI.out.ws.shape
                  injection e' with _ e' _
                  exact e'.symm
                have hz2 := pick_length (b := bb) (n := j)
                obtain ⟨v2, W6, hrun, hns6, m6, a6⟩ := hI.out.ws.push x (by omega) hB2
                obtain ⟨W5, hW5⟩ : ∃ W5, wr.alloc (.cells #[.string x] 9) = W5 := ⟨_, rfl⟩
                rw [hW5] at hrun
                have hI2 := hidP (hI.out.want s5.out hbb (by rw [hx]; exact hns6) m6 a6)
                obtain ⟨p6, c6, rfl⟩ := hns6.shape
                obtain ⟨n6, hn6⟩ : ∃ n6, (pick bb j ++ [x]).length = n6 := ⟨_, rfl⟩
                rw [hn6] at hrun hI2
                clear hI hns6 m6 a6 hbb hx hz hz2 hn6
                go_wp2_with (first | rw [hx'] | rw [hB2] | rw [hW5] | refine wpList_append_run rfl _ _ _ rfl _ _ _ _ rfl rfl hrun ?_)
                exact ⟨⟨j + 1, p6, n6, c6, pg, ng, cg, by omega, by go_num, rfl, rfl, hI2⟩, by simp [intOf]; omega⟩
              | false =>
                rw [hbb] at hcb
                have hz : (pick (fun k => !bb k) j).length = ng := by
                  obtain ⟨p', c', e'⟩ := hI.out.gs.shape
                  injection e' with _ e' _
                  exact e'.symm
                have hz2 := pick_length (b := fun k => !bb k) (n := j)
                obtain ⟨v2, W6, hrun, hns6, m6, a6⟩ := hI.out.gs.push x (by omega) hB2
                obtain ⟨W5, hW5⟩ : ∃ W5, wr.alloc (.cells #[.string x] 9) = W5 := ⟨_, rfl⟩
                rw [hW5] at hrun
                have hI2 := hidP (hI.out.gone s5.out hbb (by rw [hx]; exact hns6) m6 a6)
                obtain ⟨p6, c6, rfl⟩ := hns6.shape
                obtain ⟨n6, hn6⟩ : ∃ n6, (pick (fun k => !bb k) j ++ [x]).length = n6 := ⟨_, rfl⟩
                rw [hn6] at hrun hI2
                clear hI hns6 m6 a6 hbb hx hz hz2 hn6
                go_wp2_with (first | rw [hx'] | rw [hB2] | rw [hW5] | refine wpList_append_run rfl _ _ _ rfl _ _ _ _ rfl rfl hrun ?_)
                exact ⟨⟨j + 1, pw, nw, cw, p6, n6, c6, by omega, by go_num, rfl, rfl, hI2⟩, by simp [intOf]; omega⟩
            · obtain rfl : j = i := by omega
              have hltI3 : ¬ (j : Int) < (j : Int) := by omega
              have hr16 : (r : Int) < 16 := by omega
              have hzw := hI.out.bl.size
              have hD5 := s5.out
              obtain ⟨B6, hB6⟩ : ∃ B6, wr.heap.size = B6 := ⟨_, rfl⟩
              obtain ⟨x, hx⟩ : ∃ x, nmW r = x := ⟨_, rfl⟩
              obtain ⟨WR, hWR⟩ : ∃ WR, wr.alloc (.cells #[.string x, .string nbd] 9) = WR := ⟨_, rfl⟩
              obtain ⟨WA, hWA⟩ : ∃ WA, WR.alloc (.cells #[.slice none 0 0] 28) = WA := ⟨_, rfl⟩
              have bR : Below wr.heap.size wr WR := by rw [← hWR]; exact (Below.refl _ _).alloc (Nat.le_refl _) _
              have sR : WR.heap.size = B6 + 1 := by rw [← hWR]; simp [hB6]
              have bA : Below WR.heap.size WR WA := by rw [← hWA]; exact (Below.refl _ _).alloc (Nat.le_refl _) _
              have sA : WA.heap.size = B6 + 2 := by rw [← hWA]; simp [sR]
              have clA : Cl (B6 + 1) (.slice none 0 0) WA := by rw [← hWA]; exact ⟨cell_at sR rfl, froz_new sR⟩
              have nr0 : NR WR (.slice (some ⟨B6, 0, none⟩) 2 2) [x, nbd] := by
                refine .inr ⟨B6, 0, 2, rfl, by simp, by simp, fun k y hy => ?_⟩
                rw [Nat.zero_add]
                match k, hy with
                | 0, hy => cases hy; rw [← hWR]; exact cell_at hB6 rfl
                | 1, hy => cases hy; rw [← hWR]; exact cell_at hB6 rfl
              have nrA := nr0.mv (E := fun _ => False) (Mv.below bA) (fun _ _ q => q)
              have hre := reached_any gb _ [x, nbd] WA nrA
              have bwA : Below wr.heap.size wr WA := bR.trans (bA.mono (by omega))
              have hLA := hidP (hI.out.below s5.out bwA)
              have hBw : Hid ((∀ k, nb (Value.slice pw nw cw) = some k → k < B6) ∧ (∀ k, nb (Value.slice pg ng cg) = some k → k < B6)) := ⟨fun k hk => by have := hI.out.ws.lt hk; omega, fun k hk => by have := hI.out.gs.lt hk; omega⟩
              have hAH : Hid (Cl (B6 + 1) (.slice none 0 0) WA ∧ NR WA (.slice (some ⟨B6, 0, none⟩) 2 2) [x, nbd] ∧ WA.heap.size = B6 + 2 ∧ D + 1 ≤ B6) := ⟨clA, nrA, sA, by omega⟩
              have hxH := hidP hx
              have hLg : Hid (∀ k, nb (Value.slice pg ng cg) = some k → D < k) := hI.out.gb
              unfold nmW ltrW tgt at hx
              unfold nbd at hWR
              clear hI bR bA clA nr0 nrA bwA sA
              go_wp2_with (first | rw [hx] | rw [hB6] | rw [hWR] | rw [sR] | rw [hWA])
              refine hre.mono ?_
              rintro e W7 ⟨b1, b2, ov, rfl, c1, c2, hnr, hfr, z1, z2, b7⟩
              have hL7 := hidP (hLA.out.below s5.out b7)
              have hF7 := hidP (hF5.out.upto hGlt.out.2.2 hGlt.out.1 hGlt.out.2.1 (hL7.out.bl.mono (by omega)))
              have hwk : Wk us us.length L := by rw [hlH.out]; exact hF7.out.wk
              have hr1 := reached1_any (A := B6 + 1) (ts := pick bb j) hF7.out.g (by have := hF7.out.c; omega) (by rw [hF7.out.wk.len]; omega) (by rw [hF7.out.hgb]; exact c1) c2 hnr (fun y hy => by
                rcases List.mem_cons.1 hy with e | e
                · rw [e, ← hxH.out]; have := nmW_size (i := r) (by omega); omega
                · obtain rfl := List.mem_singleton.1 e; decide) (by simp) ⟨hAH.out.1.mv (E := fun _ => False) (Mv.below b7) (fun q => q), .inl ⟨rfl, rfl⟩, fun q => by cases q⟩ (fun X hX v => by
                have := hwk.reached (by rw [hlH.out]; omega) (by rw [hlH.out]; exact hrn) hInb.out hX (by rw [hxH.out]; exact v)
                rw [hlH.out] at this; exact this) (pick_sorted (by omega)) (by have := pick_length (b := bb) (n := j); omega)
              have b7H := hidP b7
              clear hre c1 c2 hnr hfr z1 z2 b7
              go_wp2_with fail
              refine hr1.mono ?_
              rintro e V ⟨rfl, v', tg, mV, fV⟩
              have hzA := hAH.out.2.2
              have bV : Below (B6 + 1) W7 V := mV.toBelow (by have := b7H.out.size; omega) (fun k hk q => by omega)
              have bAV : Below (B6 + 1) WA V := (b7H.out.mono (by omega)).trans bV
              have bLV : Below (D + 1) w5 V := hL7.out.bl.trans (bV.mono (by omega))
              have nsW : NS V (.slice pw nw cw) (pick bb j) := hLA.out.ws.mv (mv_of_below bAV) (fun k hk q => by have := hBw.out.1 k hk; omega)
              have nsG : NS V (.slice pg ng cg) (pick (fun k => !bb k) j) := hLA.out.gs.mv (mv_of_below bAV) (fun k hk q => by have := hBw.out.2 k hk; omega)
              have nrV : NR V (.slice (some ⟨B6, 0, none⟩) 2 2) [x, nbd] := hAH.out.2.1.mv (mv_of_below bAV) (fun k hk q => by simp [rbk] at hk; omega)
              have hFV := hidP (hF5.out.upto hGlt.out.2.2 hGlt.out.1 hGlt.out.2.1 (bLV.mono (by omega)))
              obtain ⟨pv, cv, rfl⟩ := tg.sv.shape
              obtain ⟨nv, hnv⟩ : ∃ nv, (pick bb j).length = nv := ⟨_, rfl⟩
              have hnw : nv = nw := by
                obtain ⟨p', c', e'⟩ := nsW.shape
                injection e' with _ e' _
                omega
              subst hnw
              have hpl := pick_length (b := bb) (n := j)
              have clV := tg.cl.c
              have ht1 := texts_same _ _ (pick bb j) V tg.sv nsW (by omega)
              rw [hnv] at ht1 clV
              have hVH := hidP (And.intro nsG (And.intro nrV bLV))
              clear mV fV bV bAV bLV nsW nsG nrV tg hr1 hLA hL7 hzA
              go_wp2_with fail
              refine ht1.mono ?_
              rintro e V1 ⟨rfl, bV1⟩
              obtain ⟨nsG, nrV, bLV⟩ := hVH.out
              have nsG1 := nsG.mv (E := fun _ => False) (Mv.below bV1) (fun _ _ q => q)
              have nrV1 := nrV.mv (E := fun _ => False) (Mv.below bV1) (fun _ _ q => q)
              have bL1 : Below (D + 1) w5 V1 := bLV.trans (bV1.mono (by have := bLV.size; omega))
              have hFV1 := hidP (hFV.out.below bV1)
              have hkp := keep_any (rs := [x, nbd]) (ks := pick (fun _ => true) j) hFV1.out.g (by have := hFV1.out.c; omega) (by rw [hFV1.out.wk.len]; omega) hFV1.out.tl nrV1 (fun y hy => by
                rcases List.mem_cons.1 hy with e | e
                · rw [e, ← hxH.out]; have := nmW_size (i := r) (by omega); omega
                · obtain rfl := List.mem_singleton.1 e; decide) (by simp) (hFV1.out.wk.names (by omega) hFV1.out.g.nd) (pick_sorted (by omega)) (hg0H.out.below (by rw [hB]; exact hFV1.out.bl)) (fun q => by have := hFV1.out.lo _ q; omega) (fun q => by have := hFV1.out.lo _ q; omega)
              rw [hFV1.out.hgb] at hkp
              have hV1H := hidP (And.intro nsG1 bL1)
              clear nsG nrV bLV nsG1 nrV1 bL1 bV1 ht1 hFV hVH
              go_wp2_with fail
              refine hkp.mono ?_
              rintro e V2 ⟨vk, X, S2, rfl, hXn, hVR, nsK, hG2, hgb2, mV2, hc2, fK⟩
              have hwk : Wk us us.length L := by rw [hlH.out]; exact hFV1.out.wk
              have hXp : X.Perm (pick bb j) := by
                have := hwk.reached (by rw [hlH.out]; omega) (by rw [hlH.out]; exact hrn) hInb.out hXn (by rw [hxH.out]; exact hVR)
                rw [hlH.out] at this; exact this
              rw [notIn_pick (by omega) hXp] at nsK hG2
              have nsG2 : NS V2 (.slice pg ng cg) (pick (fun k => !bb k) j) := hV1H.out.1.mv mV2 (fun k hk q => by have := hGlt.out.1 k q; have := hLg.out k hk; omega)
              obtain ⟨pk, ck, rfl⟩ := nsK.shape
              obtain ⟨nk, hnk⟩ : ∃ nk, (pick (fun k => !bb k) j).length = nk := ⟨_, rfl⟩
              have hng : nk = ng := by
                obtain ⟨p', c', e'⟩ := nsG2.shape
                injection e' with _ e' _
                omega
              subst hng
              have hpl2 := pick_length (b := fun k => !bb k) (n := j)
              have ht2 := texts_same _ _ _ V2 nsK nsG2 (by omega)
              rw [hnk] at ht2
              have b2w : Below B w0 V2 := hFV1.out.bl.trans (mV2.toBelow (by have := hFV1.out.bl.size; have := hFV1.out.hB; omega) (fun k hk q => by have := hFV1.out.lo k q; omega))
              have cD2 : ∀ q, q < 16 → V2.cell? ⟨D, q, none⟩ = some (.bool (bb q)) := fun q hq => mV2.cell (a := ⟨D, q, none⟩) (fun z => by have := hGlt.out.1 D z; omega) (bcell hV1H.out.2 (by show D < _; omega) (hcells.out q hq))
              have hEH := hidP (And.intro hG2 (And.intro hgb2 (And.intro b2w cD2)))
              clear hXn hVR nsK hG2 hgb2 mV2 hc2 fK hwk hXp nsG2 b2w cD2 hkp hV1H
              go_wp2_with fail
              refine ht2.mono ?_
              rintro e V3 ⟨rfl, bV3⟩
              obtain ⟨hG2, hgb2, b2w, cD2⟩ := hEH.out
              have hEND : Hid (Gs V3 S2 (lessU L (pick (fun k => !bb k) j)) ∧ S2.gb = gb ∧ Below w.heap.size w V3 ∧ (∀ q, q < 16 → V3.cell? ⟨D, q, none⟩ = some (.bool (bb q)))) :=
                ⟨hG2.below bV3, hgb2, (b0H.out.trans (b2w.mono (by have := b0H.out.size; omega))).trans (bV3.mono (by have := b0H.out.size; have := b2w.size; omega)), fun q hq => (Mv.below (E := fun _ => False) bV3).cell (fun z => z) (cD2 q hq)⟩
              clear hG2 hgb2 b2w cD2 bV3 ht2 hEH
              go_wp2_with fail
              go_loopw [18] (fun x wr => ∃ q : Nat, q ≤ j ∧ x = .int .i64 q ∧ Hid (Below V3.heap.size V3 wr)) (fun x _ => j - (intOf x).toNat)
              case atStart => exact ⟨0, by omega, rfl, Below.refl _ _⟩
              case round =>
                obtain ⟨q, hq, rfl, hb9⟩ := hrel
                by_cases hlt9 : q < j
                · have hltI9 : (q : Int) < (j : Int) := by omega
                  have hq16 : (q : Int) < 16 := by omega
                  have hlh := less_has (bb := bb) hF5.out.wk (by omega) hlt9
                  obtain ⟨t, ht⟩ : ∃ t, bb q = t := ⟨_, rfl⟩
                  rw [ht] at hlh
                  obtain ⟨y, hy⟩ : ∃ y, nmW q = y := ⟨_, rfl⟩
                  have hyz : y.size = 8 := by rw [← hy]; exact nmW_size (by omega)
                  obtain ⟨v0, u0, hv0⟩ : ∃ v0 u0, (t = false ∧ lku (lessU L (pick (fun k => !bb k) j)) y = none ∧ v0 = zuA ∧ u0 = zuU) ∨ (t = true ∧ lku (lessU L (pick (fun k => !bb k) j)) y = some (v0, u0)) := by
                    rw [hy] at hlh
                    cases hlk : lku (lessU L (pick (fun k => !bb k) j)) y with
                    | none => rw [hlk] at hlh; exact ⟨_, _, .inl ⟨hlh.symm, rfl, rfl, rfl⟩⟩
                    | some p => rw [hlk] at hlh; exact ⟨p.1, p.2, .inr ⟨hlh.symm, rfl⟩⟩
                  have hun := unit_any S2 _ y wr (hEND.out.1.below hb9.out) (by omega) v0 u0 t hv0
                  rw [hEND.out.2.1] at hun
                  unfold nmW ltrW tgt at hy
                  clear hlh hv0
                  go_wp2_with (rw [hy])
                  refine hun.mono ?_
                  rintro e w4 ⟨cs, rfl, hcs, _, hb4⟩
                  obtain ⟨q8, hq8⟩ : ∃ q8, w4.heap.size = q8 := ⟨_, rfl⟩
                  obtain ⟨W5, hW5⟩ : ∃ W5, w4.alloc (.cells zuA 30) = W5 := ⟨_, rfl⟩
                  obtain ⟨X, hst, _, bX⟩ := fresh_store (W := w4) hcs.sz hcs.on zuA 30 rfl
                  rw [hW5, hq8] at hst
                  have hsz := hcs.sz
                  have b9 : Hid (Below V3.heap.size V3 X) := (hb9.out.trans (hb4.mono hb9.out.size)).trans (bX.mono (by have := hb9.out.size; have := hb4.size; omega))
                  have hcD := bcell b9.out (cell_lt (hEND.out.2.2.2 q (by omega))) (hEND.out.2.2.2 q (by omega))
                  rw [ht] at hcD
                  unfold zuA at hW5
                  clear hun hcs hb4 bX hb9 ht hy hyz
                  cases t with
                  | false =>
                    go_wp2_with (first | rw [hW5] | rw [hq8] | refine wpList_storeU rfl _ _ rfl _ rfl _ rfl hsz hst ?_)
                    exact ⟨⟨q + 1, by omega, by go_num, b9⟩, by simp [intOf]; omega⟩
                  | true =>
                    go_wp2_with (first | rw [hW5] | rw [hq8] | refine wpList_storeU rfl _ _ rfl _ rfl _ rfl hsz hst ?_)
                    exact ⟨⟨q + 1, by omega, by go_num, b9⟩, by simp [intOf]; omega⟩
                · obtain rfl : q = j := by omega
                  have hltI9 : ¬ (q : Int) < (q : Int) := by omega
                  have fin : Hid (Below w.heap.size w wr) := hEND.out.2.2.1.trans (hb9.out.mono hEND.out.2.2.1.size)
                  clear hb9
                  go_wp2_with fail
                  go_ret
                  exact ⟨rfl, fin.out⟩
end Go.Proofs.YtedgnigogkmgkaaGreatDoor
