/- PortOnce: the walk. -/
import Derived.Test.YtppbdamlhcmlcaaPY
namespace Go.Proofs.Ytppbdamlhcmlcaa
open Go.RowKit Go.Shelf Go.Lib
def tS : ByteArray := ⟨#[115]⟩
theorem upP_at (f : ByteArray → Option (List Pr)) (v : Option (List Pr)) {s x : ByteArray} (h : x = s) : upP f s v x = v := if_pos h
/-- Between two rounds. -/
def On (w : World) (bt : Nat) (v : Value) (ws : List Int) (last : Int) (j : Nat) (S : St) (W : World) : Prop := Lw w bt v ws S W ∧ (pl S).q tS = some (ws.map (tgd tT)) ∧ (pl S).last = last ∧ ws.length ≤ 16 ∧ S.c ≤ 10 + 5 * j
set_option maxRecDepth 100000 in
set_option maxHeartbeats 4000000 in
theorem once_walk (a : Option Addr) (b o n cap : Nat) (us : List Nat) (w : World) (ha : 0 < n → a = some ⟨b, o, none⟩) (hl : us.length = n) (hel : ∀ (j u : Nat), us[j]? = some u → w.cell? ⟨b, o + j, none⟩ = some (.int .u8 (u : Nat))) (hub : ∀ u ∈ us, u ≤ 255) (hml : n ≤ maxLen) :
    Calls Try.prog 4 #[.slice a n cap] w fun e w' => e = .returned (.bool true) ∧ Below w.heap.size w w' := by
  have hK := hidP (known_any w)
  have haH := hidP ha
  have hlH := hidP hl
  have helH := hidP hel
  have hubH := hidP hub
  have hnm : (n : Int) ≤ 9223372036854775807 := by unfold maxLen at hml; omega
  clear ha hl hel hub hml
  by_cases h8 : 100 < n
  · have h8I : (100 : Int) < (n : Int) := by omega
    go_enter Try.func4, Try.ntmps4
    go_wp2_with fail
    refine hK.out.mono ?_
    rintro e V ⟨rfl, hbV⟩
    go_wp2_with fail
    go_ret
    exact ⟨rfl, hbV⟩
  · have h8I : decide ((100 : Int) < (n : Int)) = false := by simp; omega
    have h8J : (n : Int) ≤ 100 := by omega
    go_enter Try.func4, Try.ntmps4
    go_wp2_with fail
    refine hK.out.mono ?_
    rintro e V ⟨rfl, hbV⟩
    have hN := hidP (new_any V)
    have hbH := hidP hbV
    clear hbV hK
    go_wp2_with fail
    refine hN.out.mono ?_
    rintro e W1 ⟨rfl, hg1, hb1⟩
    have F1 := Fr.new hbH.out hg1 hb1
    obtain ⟨bt, hbt⟩ : ∃ bt, V.heap.size + 1 = bt := ⟨_, rfl⟩
    have L1 : Lw w bt (.slice none 0 0) [] (empty (V.heap.size + 1) V.heap.size) W1 := ⟨F1, hbt, .inl ⟨rfl, rfl⟩, fun k hk => by cases hk⟩
    have hS := hidP (listen_any _ tS W1 L1.f.g (by decide) (Nat.zero_le _))
    rw [L1.bt, listen_ok' (s := tS) (P := pl (empty (V.heap.size + 1) V.heap.size)) rfl (by decide)] at hS
    have L1H := hidP L1
    simp only [tS] at hS
    rw [hbt]
    clear hN hg1 hb1 hbH F1 hbt L1
    go_wp2_with fail
    refine hS.out.mono ?_
    rintro e W2 ⟨rfl, S2, G2, e2⟩
    have L2 : Hid (On w bt (.slice none 0 0) [] 0 0 S2 W2) := ⟨L1H.out.step G2, by rw [e2]; dsimp only; exact upP_at _ _ rfl, by rw [e2]; rfl, by simp, by have := G2.c; have : (empty (V.heap.size + 1) V.heap.size).c = 0 := rfl; omega⟩
    clear hS L1H G2 e2
    go_wp2_with fail
    go_loopw [4, 5, 6] (fun v la i wr => ∃ (j : Nat) (S : St) (ws : List Int) (last : Int), j ≤ n ∧ i = .int .i64 j ∧ la = .int .i64 last ∧ 0 ≤ last ∧ last ≤ j ∧ Hid (On w bt v ws last j S wr)) (fun _ _ i _ => n - (intOf i).toNat)
    case atStart => exact ⟨0, S2, [], 0, by omega, rfl, rfl, by omega, by omega, L2.out⟩
    case round =>
      clear L2
      obtain ⟨j, S, ws, last, hj, rfl, rfl, hla0, hla1, hI⟩ := hrel
      by_cases hlt : j < n
      · have hltI : (j : Int) < (n : Int) := by omega
        obtain rfl := haH.out (by omega)
        obtain ⟨u, hu⟩ : ∃ u, us[j]? = some u := ⟨us[j]'(by have := hlH.out; omega), List.getElem?_eq_getElem _⟩
        have cu := (Mv.below (E := fun _ => False) hI.out.1.f.b).cell (fun h => h) (helH.out j u hu)
        have hu255 := hubH.out u (List.mem_of_getElem? hu)
        obtain ⟨p0, hp0⟩ : ∃ p0, u % 8 = p0 := ⟨_, rfl⟩
        have hp8 : p0 < 8 := by omega
        have hmod : ((u : Nat) : Int).tmod 8 = (p0 : Int) := by rw [Int.tmod_eq_emod_of_nonneg (by omega)]; omega
        obtain ⟨p, c, hv⟩ := hI.out.1.r.shape
        obtain ⟨m, hm⟩ : ∃ m, ws.length = m := ⟨_, rfl⟩
        rw [hm] at hv
        subst hv
        have hc9 : S.c ≤ 900000 := by have := hI.out.2.2.2.2; omega
        have hl1 : last + 1 ≤ 9223372036854775807 := by omega
        have hl0 : -9223372036854775808 ≤ last + 1 := by omega
        clear hu hp0
        rcases p0 with _ | _ | _ | _ | _ | _ | _ | _ | p0
        rotate_left 8
        · omega
        · have hC := hidP (connect_any S tS tT wr hI.out.1.f.g (by decide) hc9)
          rw [hI.out.1.bt] at hC
          by_cases hfull : m = 16
          · subst hfull
            rw [conn_full' hI.out.2.1 (by decide) hm] at hC
            simp only [tS, tT] at hC
            go_wp2_with fail
            refine hC.out.mono ?_
            rintro e W2 ⟨rfl, S2, G2, e2⟩
            have L2 : Hid (On w bt (.slice p 16 c) ws last (j + 1) S2 W2) := ⟨hI.out.1.step G2, by rw [e2]; exact hI.out.2.1, by rw [e2]; exact hI.out.2.2.1, hI.out.2.2.2.1, by have := G2.c; have := hI.out.2.2.2.2; omega⟩
            clear hC G2 e2 hI cu
            go_wp2_with fail
            go_roundw
            case rel => exact ⟨j + 1, S2, _, _, by omega, by push_cast; rfl, rfl, by omega, by push_cast; omega, L2.out⟩
            case measure => simp [intOf]; omega
          · have hm16 : m < 16 := by have := hI.out.2.2.2.1; omega
            rw [conn_ok' hI.out.2.1 (by decide) (by omega), hI.out.2.2.1] at hC
            have hmI : ¬ (16 : Int) ≤ (m : Int) := by omega
            simp only [tS, tT] at hC
            go_wp2_with fail
            refine hC.out.mono ?_
            rintro e W2 ⟨rfl, S2, G2, e2⟩
            have L2 := hI.out.1.step G2
            obtain ⟨V2, hV2⟩ : ∃ V2, W2.alloc (.cells #[.int .i64 (last + 1)] 3) = V2 := ⟨_, rfl⟩
            have L3 := L2.below (W' := V2) (by rw [← hV2]; exact (Below.refl _ _).alloc (Nat.le_refl _) _)
            obtain ⟨v', w4, hrun, hns, mv4, hat⟩ := L3.r.append (a := ⟨W2.heap.size, 0, none⟩) (s := last + 1) (c := 1) (by rw [← hV2]; exact cell_at rfl rfl) (by omega) 66
            have L4 : Hid (On w bt v' (ws ++ [last + 1]) (last + 1) (j + 1) S2 w4) := ⟨L3.app hns mv4 hat, by rw [e2]; dsimp only; exact upP_at _ _ rfl, by rw [e2], by simp; omega, by have := G2.c; have := hI.out.2.2.2.2; omega⟩
            obtain ⟨p4, c4, rfl⟩ := hns.shape
            rw [show (ws ++ [last + 1]).length = m + 1 by simp [hm]] at L4 hrun
            clear hC G2 e2 hI cu L2 L3 hns mv4 hat
            have hW := hidP (waiting_len S2 tS w4 L4.out.1.f.g (by decide) (m + 1) (by rw [L4.out.2.1]; simp only [Option.getD_some, List.length_map]; exact (by simp [hm])))
            rw [L4.out.1.bt] at hW
            simp only [tS] at hW
            go_wp2_with (first | rw [hV2] | (at_builtin; refine wpList_append_run rfl _ _ 66 rfl _ _ _ _ rfl rfl hrun ?_))
            refine hW.out.mono ?_
            rintro e W9 ⟨p9, c9, rfl, hb9⟩
            have L9 : Hid (On w bt (.slice p4 (m + 1) c4) (ws ++ [last + 1]) (last + 1) (j + 1) S2 W9) := ⟨L4.out.1.below hb9, L4.out.2⟩
            clear hW L4 hb9
            go_wp2_with fail
            go_roundw
            case rel => exact ⟨j + 1, S2, _, _, by omega, by push_cast; rfl, rfl, by omega, by push_cast; omega, L9.out⟩
            case measure => simp [intOf]; omega
        · have hC := hidP (connect_any S tS tT wr hI.out.1.f.g (by decide) hc9)
          rw [hI.out.1.bt] at hC
          by_cases hfull : m = 16
          · subst hfull
            rw [conn_full' hI.out.2.1 (by decide) hm] at hC
            simp only [tS, tT] at hC
            go_wp2_with fail
            refine hC.out.mono ?_
            rintro e W2 ⟨rfl, S2, G2, e2⟩
            have L2 : Hid (On w bt (.slice p 16 c) ws last (j + 1) S2 W2) := ⟨hI.out.1.step G2, by rw [e2]; exact hI.out.2.1, by rw [e2]; exact hI.out.2.2.1, hI.out.2.2.2.1, by have := G2.c; have := hI.out.2.2.2.2; omega⟩
            clear hC G2 e2 hI cu
            go_wp2_with fail
            go_roundw
            case rel => exact ⟨j + 1, S2, _, _, by omega, by push_cast; rfl, rfl, by omega, by push_cast; omega, L2.out⟩
            case measure => simp [intOf]; omega
          · have hm16 : m < 16 := by have := hI.out.2.2.2.1; omega
            rw [conn_ok' hI.out.2.1 (by decide) (by omega), hI.out.2.2.1] at hC
            have hmI : ¬ (16 : Int) ≤ (m : Int) := by omega
            simp only [tS, tT] at hC
            go_wp2_with fail
            refine hC.out.mono ?_
            rintro e W2 ⟨rfl, S2, G2, e2⟩
            have L2 := hI.out.1.step G2
            obtain ⟨V2, hV2⟩ : ∃ V2, W2.alloc (.cells #[.int .i64 (last + 1)] 3) = V2 := ⟨_, rfl⟩
            have L3 := L2.below (W' := V2) (by rw [← hV2]; exact (Below.refl _ _).alloc (Nat.le_refl _) _)
            obtain ⟨v', w4, hrun, hns, mv4, hat⟩ := L3.r.append (a := ⟨W2.heap.size, 0, none⟩) (s := last + 1) (c := 1) (by rw [← hV2]; exact cell_at rfl rfl) (by omega) 66
            have L4 : Hid (On w bt v' (ws ++ [last + 1]) (last + 1) (j + 1) S2 w4) := ⟨L3.app hns mv4 hat, by rw [e2]; dsimp only; exact upP_at _ _ rfl, by rw [e2], by simp; omega, by have := G2.c; have := hI.out.2.2.2.2; omega⟩
            obtain ⟨p4, c4, rfl⟩ := hns.shape
            rw [show (ws ++ [last + 1]).length = m + 1 by simp [hm]] at L4 hrun
            clear hC G2 e2 hI cu L2 L3 hns mv4 hat
            have hW := hidP (waiting_len S2 tS w4 L4.out.1.f.g (by decide) (m + 1) (by rw [L4.out.2.1]; simp only [Option.getD_some, List.length_map]; exact (by simp [hm])))
            rw [L4.out.1.bt] at hW
            simp only [tS] at hW
            go_wp2_with (first | rw [hV2] | (at_builtin; refine wpList_append_run rfl _ _ 66 rfl _ _ _ _ rfl rfl hrun ?_))
            refine hW.out.mono ?_
            rintro e W9 ⟨p9, c9, rfl, hb9⟩
            have L9 : Hid (On w bt (.slice p4 (m + 1) c4) (ws ++ [last + 1]) (last + 1) (j + 1) S2 W9) := ⟨L4.out.1.below hb9, L4.out.2⟩
            clear hW L4 hb9
            go_wp2_with fail
            go_roundw
            case rel => exact ⟨j + 1, S2, _, _, by omega, by push_cast; rfl, rfl, by omega, by push_cast; omega, L9.out⟩
            case measure => simp [intOf]; omega
        · have hC := hidP (connect_any S tS tT wr hI.out.1.f.g (by decide) hc9)
          rw [hI.out.1.bt] at hC
          by_cases hfull : m = 16
          · subst hfull
            rw [conn_full' hI.out.2.1 (by decide) hm] at hC
            simp only [tS, tT] at hC
            go_wp2_with fail
            refine hC.out.mono ?_
            rintro e W2 ⟨rfl, S2, G2, e2⟩
            have L2 : Hid (On w bt (.slice p 16 c) ws last (j + 1) S2 W2) := ⟨hI.out.1.step G2, by rw [e2]; exact hI.out.2.1, by rw [e2]; exact hI.out.2.2.1, hI.out.2.2.2.1, by have := G2.c; have := hI.out.2.2.2.2; omega⟩
            clear hC G2 e2 hI cu
            go_wp2_with fail
            go_roundw
            case rel => exact ⟨j + 1, S2, _, _, by omega, by push_cast; rfl, rfl, by omega, by push_cast; omega, L2.out⟩
            case measure => simp [intOf]; omega
          · have hm16 : m < 16 := by have := hI.out.2.2.2.1; omega
            rw [conn_ok' hI.out.2.1 (by decide) (by omega), hI.out.2.2.1] at hC
            have hmI : ¬ (16 : Int) ≤ (m : Int) := by omega
            simp only [tS, tT] at hC
            go_wp2_with fail
            refine hC.out.mono ?_
            rintro e W2 ⟨rfl, S2, G2, e2⟩
            have L2 := hI.out.1.step G2
            obtain ⟨V2, hV2⟩ : ∃ V2, W2.alloc (.cells #[.int .i64 (last + 1)] 3) = V2 := ⟨_, rfl⟩
            have L3 := L2.below (W' := V2) (by rw [← hV2]; exact (Below.refl _ _).alloc (Nat.le_refl _) _)
            obtain ⟨v', w4, hrun, hns, mv4, hat⟩ := L3.r.append (a := ⟨W2.heap.size, 0, none⟩) (s := last + 1) (c := 1) (by rw [← hV2]; exact cell_at rfl rfl) (by omega) 66
            have L4 : Hid (On w bt v' (ws ++ [last + 1]) (last + 1) (j + 1) S2 w4) := ⟨L3.app hns mv4 hat, by rw [e2]; dsimp only; exact upP_at _ _ rfl, by rw [e2], by simp; omega, by have := G2.c; have := hI.out.2.2.2.2; omega⟩
            obtain ⟨p4, c4, rfl⟩ := hns.shape
            rw [show (ws ++ [last + 1]).length = m + 1 by simp [hm]] at L4 hrun
            clear hC G2 e2 hI cu L2 L3 hns mv4 hat
            have hW := hidP (waiting_len S2 tS w4 L4.out.1.f.g (by decide) (m + 1) (by rw [L4.out.2.1]; simp only [Option.getD_some, List.length_map]; exact (by simp [hm])))
            rw [L4.out.1.bt] at hW
            simp only [tS] at hW
            go_wp2_with (first | rw [hV2] | (at_builtin; refine wpList_append_run rfl _ _ 66 rfl _ _ _ _ rfl rfl hrun ?_))
            refine hW.out.mono ?_
            rintro e W9 ⟨p9, c9, rfl, hb9⟩
            have L9 : Hid (On w bt (.slice p4 (m + 1) c4) (ws ++ [last + 1]) (last + 1) (j + 1) S2 W9) := ⟨L4.out.1.below hb9, L4.out.2⟩
            clear hW L4 hb9
            go_wp2_with fail
            go_roundw
            case rel => exact ⟨j + 1, S2, _, _, by omega, by push_cast; rfl, rfl, by omega, by push_cast; omega, L9.out⟩
            case measure => simp [intOf]; omega
        · have hC := hidP (connect_any S tS tT wr hI.out.1.f.g (by decide) hc9)
          rw [hI.out.1.bt] at hC
          by_cases hfull : m = 16
          · subst hfull
            rw [conn_full' hI.out.2.1 (by decide) hm] at hC
            simp only [tS, tT] at hC
            go_wp2_with fail
            refine hC.out.mono ?_
            rintro e W2 ⟨rfl, S2, G2, e2⟩
            have L2 : Hid (On w bt (.slice p 16 c) ws last (j + 1) S2 W2) := ⟨hI.out.1.step G2, by rw [e2]; exact hI.out.2.1, by rw [e2]; exact hI.out.2.2.1, hI.out.2.2.2.1, by have := G2.c; have := hI.out.2.2.2.2; omega⟩
            clear hC G2 e2 hI cu
            go_wp2_with fail
            go_roundw
            case rel => exact ⟨j + 1, S2, _, _, by omega, by push_cast; rfl, rfl, by omega, by push_cast; omega, L2.out⟩
            case measure => simp [intOf]; omega
          · have hm16 : m < 16 := by have := hI.out.2.2.2.1; omega
            rw [conn_ok' hI.out.2.1 (by decide) (by omega), hI.out.2.2.1] at hC
            have hmI : ¬ (16 : Int) ≤ (m : Int) := by omega
            simp only [tS, tT] at hC
            go_wp2_with fail
            refine hC.out.mono ?_
            rintro e W2 ⟨rfl, S2, G2, e2⟩
            have L2 := hI.out.1.step G2
            obtain ⟨V2, hV2⟩ : ∃ V2, W2.alloc (.cells #[.int .i64 (last + 1)] 3) = V2 := ⟨_, rfl⟩
            have L3 := L2.below (W' := V2) (by rw [← hV2]; exact (Below.refl _ _).alloc (Nat.le_refl _) _)
            obtain ⟨v', w4, hrun, hns, mv4, hat⟩ := L3.r.append (a := ⟨W2.heap.size, 0, none⟩) (s := last + 1) (c := 1) (by rw [← hV2]; exact cell_at rfl rfl) (by omega) 66
            have L4 : Hid (On w bt v' (ws ++ [last + 1]) (last + 1) (j + 1) S2 w4) := ⟨L3.app hns mv4 hat, by rw [e2]; dsimp only; exact upP_at _ _ rfl, by rw [e2], by simp; omega, by have := G2.c; have := hI.out.2.2.2.2; omega⟩
            obtain ⟨p4, c4, rfl⟩ := hns.shape
            rw [show (ws ++ [last + 1]).length = m + 1 by simp [hm]] at L4 hrun
            clear hC G2 e2 hI cu L2 L3 hns mv4 hat
            have hW := hidP (waiting_len S2 tS w4 L4.out.1.f.g (by decide) (m + 1) (by rw [L4.out.2.1]; simp only [Option.getD_some, List.length_map]; exact (by simp [hm])))
            rw [L4.out.1.bt] at hW
            simp only [tS] at hW
            go_wp2_with (first | rw [hV2] | (at_builtin; refine wpList_append_run rfl _ _ 66 rfl _ _ _ _ rfl rfl hrun ?_))
            refine hW.out.mono ?_
            rintro e W9 ⟨p9, c9, rfl, hb9⟩
            have L9 : Hid (On w bt (.slice p4 (m + 1) c4) (ws ++ [last + 1]) (last + 1) (j + 1) S2 W9) := ⟨L4.out.1.below hb9, L4.out.2⟩
            clear hW L4 hb9
            go_wp2_with fail
            go_roundw
            case rel => exact ⟨j + 1, S2, _, _, by omega, by push_cast; rfl, rfl, by omega, by push_cast; omega, L9.out⟩
            case measure => simp [intOf]; omega
        · have hA := hidP (accept_any S tS wr hI.out.1.f.g (by decide))
          rw [hI.out.1.bt] at hA
          cases ws with
          | nil =>
            obtain rfl : m = 0 := hm.symm
            rw [acc_none' hI.out.2.1] at hA
            simp only [tS, zP] at hA
            go_wp2_with fail
            refine hA.out.mono ?_
            rintro e W2 ⟨rfl, S2, G2, e2⟩
            have L2 : Hid (∀ W, Below W2.heap.size W2 W → On w bt (.slice p 0 c) [] last (j + 1) S2 W) := fun W hb => ⟨(hI.out.1.step G2).below hb, by rw [e2]; exact hI.out.2.1, by rw [e2]; exact hI.out.2.2.1, by simp, by have := G2.c; have := hI.out.2.2.2.2; omega⟩
            clear hA G2 e2 hI cu
            go_wp2_with fail
            go_roundw
            case rel => exact ⟨j + 1, S2, _, _, by omega, by push_cast; rfl, rfl, by omega, by push_cast; omega, L2.out _ ((Below.refl _ _).alloc (Nat.le_refl _) _)⟩
            case measure => simp [intOf]; omega
          | cons x r =>
            rw [acc_ok' hI.out.2.1] at hA
            simp only [tgd, tS, tT] at hA
            obtain ⟨g, q, cp, hsl, hx0, hcap, hcm, hcut⟩ := hI.out.1.r.cut
            injection hsl with e1 e2 e3
            subst e1 e2 e3
            obtain ⟨nr, hnr⟩ : ∃ nr, r.length = nr := ⟨_, rfl⟩
            rw [hnr] at hcap hcut hI ⊢
            have hn0 : (0 : Int) < (nr : Int) + 1 := by omega
            have hn1 : (1 : Int) ≤ (nr : Int) + 1 := by omega
            have hn2 : ¬ (nr : Int) + 1 = 0 := by omega
            have hcm2 : (c : Int) ≤ 9223372036854775807 := by unfold maxLen at hcm; omega
            have hcutH := hidP hcut
            have hx0H := hidP hx0
            have hnrH := hidP hnr
            clear hcut hx0 hm hnr
            go_wp2_with fail
            refine hA.out.mono ?_
            rintro e W2 ⟨rfl, S2, G2, e2⟩
            obtain ⟨V2, hV2⟩ : ∃ V2, W2.alloc (.cells #[.int .i64 x, .string ⟨#[116]⟩] 41) = V2 := ⟨_, rfl⟩
            have hbV : Below W2.heap.size W2 V2 := by rw [← hV2]; exact (Below.refl _ _).alloc (Nat.le_refl _) _
            have hgn : ¬ hasB S g := (hI.out.1.new g rfl).2
            have hcutV : IS V2 (.slice (if c = 1 then some ⟨g, q, none⟩ else some ⟨g, q + 1, none⟩) nr (c - 1)) r := (hcutH.out.mv G2.mv (fun k hk e => by
              have : k = g := by by_cases h : c = 1 <;> simp [h, nb] at hk <;> exact hk.symm
              subst this; exact hgn e)).mv (E := fun _ => False) (Mv.below hbV) (fun _ _ h => h)
            have y0 : V2.cell? ⟨g, q, none⟩ = some (.int .i64 x) := (Mv.below (E := fun _ => False) hbV).cell (a := ⟨g, q, none⟩) (fun h => h) (G2.mv.cell (a := ⟨g, q, none⟩) hgn hx0H.out)
            have y1 : V2.cell? ⟨W2.heap.size, 0, none⟩ = some (.int .i64 x) := by rw [← hV2]; exact cell_at rfl rfl
            have L2 : Hid (∀ W, Below V2.heap.size V2 W → On w bt (.slice (if c = 1 then some ⟨g, q, none⟩ else some ⟨g, q + 1, none⟩) nr (c - 1)) r last (j + 1) S2 W) := fun W hb => ⟨(((hI.out.1.step G2).below hbV).cut hcutV (by by_cases h : c = 1 <;> simp [h, nb])).below hb, by rw [e2]; dsimp only; exact upP_at _ _ rfl, by rw [e2]; exact hI.out.2.2.1, by have := hI.out.2.2.2.1; simp at this; omega, by have := G2.c; have := hI.out.2.2.2.2; omega⟩
            clear hA G2 e2 hI cu hbV hcutV hcutH hx0H hgn
            go_wp2_with (rw [hV2])
            go_quiet (fail)
            obtain ⟨W6, hW6⟩ : ∃ W6, V2.drewN nq = W6 := ⟨_, rfl⟩
            rw [hW6]
            have L6 := hidP (L2.out W6 (by rw [← hW6]; exact below_drewN (Below.refl _ _) _))
            clear L2 hW6 y0 y1
            by_cases hc1 : c = 1
            · subst hc1
              obtain rfl : nr = 0 := by omega
              rw [if_pos rfl] at L6
              have hW := hidP (waiting_len S2 tS W6 L6.out.1.f.g (by decide) 0 (by rw [L6.out.2.1]; simp only [Option.getD_some, List.length_map]; exact hnrH.out))
              rw [L6.out.1.bt] at hW
              simp only [tS] at hW
              go_wp2_with fail
              refine hW.out.mono ?_
              rintro e W9 ⟨p9, c9, rfl, hb9⟩
              have L9 : Hid (On w bt (.slice (some ⟨g, q, none⟩) 0 0) r last (j + 1) S2 W9) := ⟨L6.out.1.below hb9, L6.out.2⟩
              clear hW L6 hb9
              go_wp2_with fail
              go_roundw
              case rel => exact ⟨j + 1, S2, _, _, by omega, by push_cast; rfl, rfl, by omega, by push_cast; omega, L9.out⟩
              case measure => simp [intOf]; omega
            · rw [if_neg hc1] at L6
              have hW := hidP (waiting_len S2 tS W6 L6.out.1.f.g (by decide) nr (by rw [L6.out.2.1]; simp only [Option.getD_some, List.length_map]; exact hnrH.out))
              rw [L6.out.1.bt] at hW
              simp only [tS] at hW
              go_wp2_with fail
              refine hW.out.mono ?_
              rintro e W9 ⟨p9, c9, rfl, hb9⟩
              have L9 : Hid (On w bt (.slice (some ⟨g, q + 1, none⟩) nr (c - 1)) r last (j + 1) S2 W9) := ⟨L6.out.1.below hb9, L6.out.2⟩
              clear hW L6 hb9
              go_wp2_with fail
              go_roundw
              case rel => exact ⟨j + 1, S2, _, _, by omega, by push_cast; rfl, rfl, by omega, by push_cast; omega, L9.out⟩
              case measure => simp [intOf]; omega
        · have hA := hidP (accept_any S tS wr hI.out.1.f.g (by decide))
          rw [hI.out.1.bt] at hA
          cases ws with
          | nil =>
            obtain rfl : m = 0 := hm.symm
            rw [acc_none' hI.out.2.1] at hA
            simp only [tS, zP] at hA
            go_wp2_with fail
            refine hA.out.mono ?_
            rintro e W2 ⟨rfl, S2, G2, e2⟩
            have L2 : Hid (∀ W, Below W2.heap.size W2 W → On w bt (.slice p 0 c) [] last (j + 1) S2 W) := fun W hb => ⟨(hI.out.1.step G2).below hb, by rw [e2]; exact hI.out.2.1, by rw [e2]; exact hI.out.2.2.1, by simp, by have := G2.c; have := hI.out.2.2.2.2; omega⟩
            clear hA G2 e2 hI cu
            go_wp2_with fail
            go_roundw
            case rel => exact ⟨j + 1, S2, _, _, by omega, by push_cast; rfl, rfl, by omega, by push_cast; omega, L2.out _ ((Below.refl _ _).alloc (Nat.le_refl _) _)⟩
            case measure => simp [intOf]; omega
          | cons x r =>
            rw [acc_ok' hI.out.2.1] at hA
            simp only [tgd, tS, tT] at hA
            obtain ⟨g, q, cp, hsl, hx0, hcap, hcm, hcut⟩ := hI.out.1.r.cut
            injection hsl with e1 e2 e3
            subst e1 e2 e3
            obtain ⟨nr, hnr⟩ : ∃ nr, r.length = nr := ⟨_, rfl⟩
            rw [hnr] at hcap hcut hI ⊢
            have hn0 : (0 : Int) < (nr : Int) + 1 := by omega
            have hn1 : (1 : Int) ≤ (nr : Int) + 1 := by omega
            have hn2 : ¬ (nr : Int) + 1 = 0 := by omega
            have hcm2 : (c : Int) ≤ 9223372036854775807 := by unfold maxLen at hcm; omega
            have hcutH := hidP hcut
            have hx0H := hidP hx0
            have hnrH := hidP hnr
            clear hcut hx0 hm hnr
            go_wp2_with fail
            refine hA.out.mono ?_
            rintro e W2 ⟨rfl, S2, G2, e2⟩
            obtain ⟨V2, hV2⟩ : ∃ V2, W2.alloc (.cells #[.int .i64 x, .string ⟨#[116]⟩] 41) = V2 := ⟨_, rfl⟩
            have hbV : Below W2.heap.size W2 V2 := by rw [← hV2]; exact (Below.refl _ _).alloc (Nat.le_refl _) _
            have hgn : ¬ hasB S g := (hI.out.1.new g rfl).2
            have hcutV : IS V2 (.slice (if c = 1 then some ⟨g, q, none⟩ else some ⟨g, q + 1, none⟩) nr (c - 1)) r := (hcutH.out.mv G2.mv (fun k hk e => by
              have : k = g := by by_cases h : c = 1 <;> simp [h, nb] at hk <;> exact hk.symm
              subst this; exact hgn e)).mv (E := fun _ => False) (Mv.below hbV) (fun _ _ h => h)
            have y0 : V2.cell? ⟨g, q, none⟩ = some (.int .i64 x) := (Mv.below (E := fun _ => False) hbV).cell (a := ⟨g, q, none⟩) (fun h => h) (G2.mv.cell (a := ⟨g, q, none⟩) hgn hx0H.out)
            have y1 : V2.cell? ⟨W2.heap.size, 0, none⟩ = some (.int .i64 x) := by rw [← hV2]; exact cell_at rfl rfl
            have L2 : Hid (∀ W, Below V2.heap.size V2 W → On w bt (.slice (if c = 1 then some ⟨g, q, none⟩ else some ⟨g, q + 1, none⟩) nr (c - 1)) r last (j + 1) S2 W) := fun W hb => ⟨(((hI.out.1.step G2).below hbV).cut hcutV (by by_cases h : c = 1 <;> simp [h, nb])).below hb, by rw [e2]; dsimp only; exact upP_at _ _ rfl, by rw [e2]; exact hI.out.2.2.1, by have := hI.out.2.2.2.1; simp at this; omega, by have := G2.c; have := hI.out.2.2.2.2; omega⟩
            clear hA G2 e2 hI cu hbV hcutV hcutH hx0H hgn
            go_wp2_with (rw [hV2])
            go_quiet (fail)
            obtain ⟨W6, hW6⟩ : ∃ W6, V2.drewN nq = W6 := ⟨_, rfl⟩
            rw [hW6]
            have L6 := hidP (L2.out W6 (by rw [← hW6]; exact below_drewN (Below.refl _ _) _))
            clear L2 hW6 y0 y1
            by_cases hc1 : c = 1
            · subst hc1
              obtain rfl : nr = 0 := by omega
              rw [if_pos rfl] at L6
              have hW := hidP (waiting_len S2 tS W6 L6.out.1.f.g (by decide) 0 (by rw [L6.out.2.1]; simp only [Option.getD_some, List.length_map]; exact hnrH.out))
              rw [L6.out.1.bt] at hW
              simp only [tS] at hW
              go_wp2_with fail
              refine hW.out.mono ?_
              rintro e W9 ⟨p9, c9, rfl, hb9⟩
              have L9 : Hid (On w bt (.slice (some ⟨g, q, none⟩) 0 0) r last (j + 1) S2 W9) := ⟨L6.out.1.below hb9, L6.out.2⟩
              clear hW L6 hb9
              go_wp2_with fail
              go_roundw
              case rel => exact ⟨j + 1, S2, _, _, by omega, by push_cast; rfl, rfl, by omega, by push_cast; omega, L9.out⟩
              case measure => simp [intOf]; omega
            · rw [if_neg hc1] at L6
              have hW := hidP (waiting_len S2 tS W6 L6.out.1.f.g (by decide) nr (by rw [L6.out.2.1]; simp only [Option.getD_some, List.length_map]; exact hnrH.out))
              rw [L6.out.1.bt] at hW
              simp only [tS] at hW
              go_wp2_with fail
              refine hW.out.mono ?_
              rintro e W9 ⟨p9, c9, rfl, hb9⟩
              have L9 : Hid (On w bt (.slice (some ⟨g, q + 1, none⟩) nr (c - 1)) r last (j + 1) S2 W9) := ⟨L6.out.1.below hb9, L6.out.2⟩
              clear hW L6 hb9
              go_wp2_with fail
              go_roundw
              case rel => exact ⟨j + 1, S2, _, _, by omega, by push_cast; rfl, rfl, by omega, by push_cast; omega, L9.out⟩
              case measure => simp [intOf]; omega
        · have hA := hidP (accept_any S tS wr hI.out.1.f.g (by decide))
          rw [hI.out.1.bt] at hA
          cases ws with
          | nil =>
            obtain rfl : m = 0 := hm.symm
            rw [acc_none' hI.out.2.1] at hA
            simp only [tS, zP] at hA
            go_wp2_with fail
            refine hA.out.mono ?_
            rintro e W2 ⟨rfl, S2, G2, e2⟩
            have L2 : Hid (∀ W, Below W2.heap.size W2 W → On w bt (.slice p 0 c) [] last (j + 1) S2 W) := fun W hb => ⟨(hI.out.1.step G2).below hb, by rw [e2]; exact hI.out.2.1, by rw [e2]; exact hI.out.2.2.1, by simp, by have := G2.c; have := hI.out.2.2.2.2; omega⟩
            clear hA G2 e2 hI cu
            go_wp2_with fail
            go_roundw
            case rel => exact ⟨j + 1, S2, _, _, by omega, by push_cast; rfl, rfl, by omega, by push_cast; omega, L2.out _ ((Below.refl _ _).alloc (Nat.le_refl _) _)⟩
            case measure => simp [intOf]; omega
          | cons x r =>
            rw [acc_ok' hI.out.2.1] at hA
            simp only [tgd, tS, tT] at hA
            obtain ⟨g, q, cp, hsl, hx0, hcap, hcm, hcut⟩ := hI.out.1.r.cut
            injection hsl with e1 e2 e3
            subst e1 e2 e3
            obtain ⟨nr, hnr⟩ : ∃ nr, r.length = nr := ⟨_, rfl⟩
            rw [hnr] at hcap hcut hI ⊢
            have hn0 : (0 : Int) < (nr : Int) + 1 := by omega
            have hn1 : (1 : Int) ≤ (nr : Int) + 1 := by omega
            have hn2 : ¬ (nr : Int) + 1 = 0 := by omega
            have hcm2 : (c : Int) ≤ 9223372036854775807 := by unfold maxLen at hcm; omega
            have hcutH := hidP hcut
            have hx0H := hidP hx0
            have hnrH := hidP hnr
            clear hcut hx0 hm hnr
            go_wp2_with fail
            refine hA.out.mono ?_
            rintro e W2 ⟨rfl, S2, G2, e2⟩
            obtain ⟨V2, hV2⟩ : ∃ V2, W2.alloc (.cells #[.int .i64 x, .string ⟨#[116]⟩] 41) = V2 := ⟨_, rfl⟩
            have hbV : Below W2.heap.size W2 V2 := by rw [← hV2]; exact (Below.refl _ _).alloc (Nat.le_refl _) _
            have hgn : ¬ hasB S g := (hI.out.1.new g rfl).2
            have hcutV : IS V2 (.slice (if c = 1 then some ⟨g, q, none⟩ else some ⟨g, q + 1, none⟩) nr (c - 1)) r := (hcutH.out.mv G2.mv (fun k hk e => by
              have : k = g := by by_cases h : c = 1 <;> simp [h, nb] at hk <;> exact hk.symm
              subst this; exact hgn e)).mv (E := fun _ => False) (Mv.below hbV) (fun _ _ h => h)
            have y0 : V2.cell? ⟨g, q, none⟩ = some (.int .i64 x) := (Mv.below (E := fun _ => False) hbV).cell (a := ⟨g, q, none⟩) (fun h => h) (G2.mv.cell (a := ⟨g, q, none⟩) hgn hx0H.out)
            have y1 : V2.cell? ⟨W2.heap.size, 0, none⟩ = some (.int .i64 x) := by rw [← hV2]; exact cell_at rfl rfl
            have L2 : Hid (∀ W, Below V2.heap.size V2 W → On w bt (.slice (if c = 1 then some ⟨g, q, none⟩ else some ⟨g, q + 1, none⟩) nr (c - 1)) r last (j + 1) S2 W) := fun W hb => ⟨(((hI.out.1.step G2).below hbV).cut hcutV (by by_cases h : c = 1 <;> simp [h, nb])).below hb, by rw [e2]; dsimp only; exact upP_at _ _ rfl, by rw [e2]; exact hI.out.2.2.1, by have := hI.out.2.2.2.1; simp at this; omega, by have := G2.c; have := hI.out.2.2.2.2; omega⟩
            clear hA G2 e2 hI cu hbV hcutV hcutH hx0H hgn
            go_wp2_with (rw [hV2])
            go_quiet (fail)
            obtain ⟨W6, hW6⟩ : ∃ W6, V2.drewN nq = W6 := ⟨_, rfl⟩
            rw [hW6]
            have L6 := hidP (L2.out W6 (by rw [← hW6]; exact below_drewN (Below.refl _ _) _))
            clear L2 hW6 y0 y1
            by_cases hc1 : c = 1
            · subst hc1
              obtain rfl : nr = 0 := by omega
              rw [if_pos rfl] at L6
              have hW := hidP (waiting_len S2 tS W6 L6.out.1.f.g (by decide) 0 (by rw [L6.out.2.1]; simp only [Option.getD_some, List.length_map]; exact hnrH.out))
              rw [L6.out.1.bt] at hW
              simp only [tS] at hW
              go_wp2_with fail
              refine hW.out.mono ?_
              rintro e W9 ⟨p9, c9, rfl, hb9⟩
              have L9 : Hid (On w bt (.slice (some ⟨g, q, none⟩) 0 0) r last (j + 1) S2 W9) := ⟨L6.out.1.below hb9, L6.out.2⟩
              clear hW L6 hb9
              go_wp2_with fail
              go_roundw
              case rel => exact ⟨j + 1, S2, _, _, by omega, by push_cast; rfl, rfl, by omega, by push_cast; omega, L9.out⟩
              case measure => simp [intOf]; omega
            · rw [if_neg hc1] at L6
              have hW := hidP (waiting_len S2 tS W6 L6.out.1.f.g (by decide) nr (by rw [L6.out.2.1]; simp only [Option.getD_some, List.length_map]; exact hnrH.out))
              rw [L6.out.1.bt] at hW
              simp only [tS] at hW
              go_wp2_with fail
              refine hW.out.mono ?_
              rintro e W9 ⟨p9, c9, rfl, hb9⟩
              have L9 : Hid (On w bt (.slice (some ⟨g, q + 1, none⟩) nr (c - 1)) r last (j + 1) S2 W9) := ⟨L6.out.1.below hb9, L6.out.2⟩
              clear hW L6 hb9
              go_wp2_with fail
              go_roundw
              case rel => exact ⟨j + 1, S2, _, _, by omega, by push_cast; rfl, rfl, by omega, by push_cast; omega, L9.out⟩
              case measure => simp [intOf]; omega
        · have hC := hidP (close_any S tS wr hI.out.1.f.g (by decide))
          rw [hI.out.1.bt, close_ok' hI.out.2.1] at hC
          simp only [tS] at hC
          go_wp2_with fail
          refine hC.out.mono ?_
          rintro e W2 ⟨rfl, S2, G2, e2⟩
          have L2 := hI.out.1.step G2
          have hc2 : S2.c ≤ 900000 := by have := G2.c; have := hI.out.2.2.2.2; omega
          have hN2 : (pl S2).q tS = none := by rw [e2]; dsimp only; exact upP_at _ _ rfl
          have hS := hidP (listen_any S2 tS W2 L2.f.g (by decide) hc2)
          rw [L2.bt, listen_ok' hN2 (by decide)] at hS
          simp only [tS] at hS
          have hH : Hid (Lw w bt (.slice p m c) ws S2 W2 ∧ S2.c ≤ 11 + 5 * j ∧ (pl S2).last = last) := ⟨L2, by have := G2.c; have := hI.out.2.2.2.2; omega, by rw [e2]; exact hI.out.2.2.1⟩
          clear hC G2 e2 hI cu L2 hN2
          go_wp2_with fail
          refine hS.out.mono ?_
          rintro e W3 ⟨rfl, S3, G3, e3⟩
          have L3 : Hid (On w bt (.slice none 0 0) [] last (j + 1) S3 W3) := ⟨⟨(hH.out.1.step G3).f, (hH.out.1.step G3).bt, .inl ⟨rfl, rfl⟩, fun k hk => by cases hk⟩, by rw [e3]; dsimp only; exact upP_at _ _ rfl, by rw [e3]; exact hH.out.2.2, by simp, by have := G3.c; have := hH.out.2.1; omega⟩
          clear hS G3 e3 hH
          have hW := hidP (waiting_len S3 tS W3 L3.out.1.f.g (by decide) 0 (by rw [L3.out.2.1]; simp only [Option.getD_some, List.length_map]; exact rfl))
          rw [L3.out.1.bt] at hW
          simp only [tS] at hW
          go_wp2_with fail
          refine hW.out.mono ?_
          rintro e W9 ⟨p9, c9, rfl, hb9⟩
          have L9 : Hid (On w bt (.slice none 0 0) [] last (j + 1) S3 W9) := ⟨L3.out.1.below hb9, L3.out.2⟩
          clear hW L3 hb9
          go_wp2_with fail
          go_roundw
          case rel => exact ⟨j + 1, S3, _, _, by omega, by push_cast; rfl, rfl, by omega, by push_cast; omega, L9.out⟩
          case measure => simp [intOf]; omega
      · obtain rfl : j = n := by omega
        have fin := hidP hI.out.1.f.b
        clear hI
        go_wp2_with fail
        go_ret
        exact ⟨rfl, fin.out⟩
end Go.Proofs.Ytppbdamlhcmlcaa
