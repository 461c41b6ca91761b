/- PortDatagrams: the walk. -/
import Derived.Test.YtppbdamlhcmlcaaPI
namespace Go.Proofs.Ytppbdamlhcmlcaa
open Go.RowKit Go.Shelf Go.Lib
def tT : ByteArray := ⟨#[116]⟩
def tag (i : Int) : Pr := (i, tT)
theorem send_full' {P : Pl} {ws : List Int} {i : Int} (h : P.ms = ws.map tag) (hl : ws.length = 16) : sendP P i tT = (102, P) := by
  unfold sendP
  rw [if_neg (by decide), if_pos (by rw [h]; simp; omega)]
theorem send_ok' {P : Pl} {ws : List Int} {i : Int} (h : P.ms = ws.map tag) (hl : ws.length < 16) : sendP P i tT = (0, { P with ms := (ws ++ [i]).map tag }) := by
  unfold sendP
  rw [if_neg (by decide), if_neg (by rw [h]; simp; omega), h, List.map_append]; rfl
theorem recv_none' {P : Pl} (h : P.ms = ([] : List Int).map tag) : recvP P = (zP, false, P) := by unfold recvP; rw [h]; rfl
theorem recv_ok' {P : Pl} {x : Int} {r : List Int} (h : P.ms = (x :: r).map tag) : recvP P = (tag x, true, { P with ms := r.map tag }) := by unfold recvP; rw [h]; rfl
set_option maxRecDepth 100000 in
set_option maxHeartbeats 1000000 in
theorem datagrams_walk (a : Option Addr) (b o n cap : Nat) (us : List Nat) (w : World) (ha : 0 < n → a = some ⟨b, o, none⟩) (hl : us.length = n) (hel : ∀ (j u : Nat), us[j]? = some u → w.cell? ⟨b, o + j, none⟩ = some (.int .u8 (u : Nat))) (hub : ∀ u ∈ us, u ≤ 255) (hml : n ≤ maxLen) :
    Calls Try.prog 6 #[.slice a n cap] w fun e w' => e = .returned (.bool true) ∧ Below w.heap.size w w' := by
  have hK := hidP (known_any w)
  have haH := hidP ha
  have hlH := hidP hl
  have helH := hidP hel
  have hubH := hidP hub
  have hnm : (n : Int) ≤ 9223372036854775807 := by unfold maxLen at hml; omega
  clear ha hl hel hub hml
  by_cases h8 : 80 < n
  · have h8I : (80 : Int) < (n : Int) := by omega
    go_enter Try.func6, Try.ntmps6
    go_wp2_with fail
    refine hK.out.mono ?_
    rintro e V ⟨rfl, hbV⟩
    go_wp2_with fail
    go_ret
    exact ⟨rfl, hbV⟩
  · have h8I : decide ((80 : Int) < (n : Int)) = false := by simp; omega
    have h8J : (n : Int) ≤ 80 := by omega
    go_enter Try.func6, Try.ntmps6
    go_wp2_with fail
    refine hK.out.mono ?_
    rintro e V ⟨rfl, hbV⟩
    have hN := hidP (new_any V)
    have hbH := hidP hbV
    clear hbV hK
    go_wp2_with fail
    refine hN.out.mono ?_
    rintro e W1 ⟨rfl, hg1, hb1⟩
    have F1 := Fr.new hbH.out hg1 hb1
    obtain ⟨bt, hbt⟩ : ∃ bt, V.heap.size + 1 = bt := ⟨_, rfl⟩
    have L1 : Hid (∃ S, Lw w bt (.slice none 0 0) [] S W1 ∧ (pl S).ms = ([] : List Int).map tag) := ⟨_, ⟨F1, hbt, .inl ⟨rfl, rfl⟩, fun k hk => by cases hk⟩, rfl⟩
    rw [hbt]
    clear hN hg1 hb1 hbH F1 hbt
    go_wp2_with fail
    go_loopw [4, 5] (fun v i wr => ∃ (j : Nat) (S : St) (ws : List Int), j ≤ n ∧ i = .int .i64 j ∧ Hid (Lw w bt v ws S wr ∧ (pl S).ms = ws.map tag ∧ ws.length ≤ 16)) (fun _ i _ => n - (intOf i).toNat)
    case atStart =>
      obtain ⟨S, h1, h2⟩ := L1.out
      exact ⟨0, S, [], by omega, rfl, h1, h2, by simp⟩
    case round =>
      clear L1
      obtain ⟨j, S, ws, hj, rfl, hI⟩ := hrel
      by_cases hlt : j < n
      · have hltI : (j : Int) < (n : Int) := by omega
        obtain rfl := haH.out (by omega)
        obtain ⟨u, hu⟩ : ∃ u, us[j]? = some u := ⟨us[j]'(by have := hlH.out; omega), List.getElem?_eq_getElem _⟩
        have cu := (Mv.below (E := fun _ => False) hI.out.1.f.b).cell (fun h => h) (helH.out j u hu)
        have hu255 := hubH.out u (List.mem_of_getElem? hu)
        obtain ⟨p0, hp0⟩ : ∃ p0, u % 3 = p0 := ⟨_, rfl⟩
        have hmod : ((u : Nat) : Int).tmod 3 = (p0 : Int) := by rw [Int.tmod_eq_emod_of_nonneg (by omega)]; omega
        obtain ⟨p, c, hv⟩ := hI.out.1.r.shape
        obtain ⟨m, hm⟩ : ∃ m, ws.length = m := ⟨_, rfl⟩
        rw [hm] at hv
        subst hv
        clear hu
        by_cases hp2 : p0 < 2
        · have hp2I : (p0 : Int) < 2 := by omega
          have hS := hidP (send_any S j tT wr hI.out.1.f.g)
          rw [hI.out.1.bt] at hS
          by_cases hfull : m = 16
          · subst hfull
            rw [send_full' hI.out.2.1 hm] at hS
            simp only [tT] at hS
            go_wp2_with fail
            refine hS.out.mono ?_
            rintro e W2 ⟨rfl, S2, G2, e2⟩
            have L2 : Hid (Lw w bt (.slice p 16 c) ws S2 W2 ∧ (pl S2).ms = ws.map tag ∧ ws.length ≤ 16) := ⟨hI.out.1.step G2, by rw [e2]; exact hI.out.2.1, hI.out.2.2⟩
            clear hS G2 e2 hI cu
            go_wp2_with fail
            go_roundw
            case rel => exact ⟨j + 1, S2, ws, by omega, by push_cast; rfl, L2.out⟩
            case measure => simp [intOf]; omega
          · have hm16 : m < 16 := by have := hI.out.2.2; omega
            rw [send_ok' hI.out.2.1 (by omega)] at hS
            have hmI : (m : Int) < 16 := by omega
            simp only [tT] at hS
            go_wp2_with fail
            refine hS.out.mono ?_
            rintro e W2 ⟨rfl, S2, G2, e2⟩
            have L2 : Lw w bt (.slice p m c) ws S2 W2 ∧ (pl S2).ms = (ws ++ [(j : Int)]).map tag := ⟨hI.out.1.step G2, by rw [e2]⟩
            obtain ⟨V2, hV2⟩ : ∃ V2, W2.alloc (.cells #[.int .i64 (j : Int)] 3) = V2 := ⟨_, rfl⟩
            have L3 := L2.1.below (W' := V2) (by rw [← hV2]; exact (Below.refl _ _).alloc (Nat.le_refl _) _)
            obtain ⟨v', w4, hrun, hns, mv4, hat⟩ := L3.r.append (a := ⟨W2.heap.size, 0, none⟩) (s := (j : Int)) (c := 1) (by rw [← hV2]; exact cell_at rfl rfl) (by have := hI.out.2.2; omega) 66
            have L4 : Hid (Lw w bt v' (ws ++ [(j : Int)]) S2 w4 ∧ (pl S2).ms = (ws ++ [(j : Int)]).map tag ∧ (ws ++ [(j : Int)]).length ≤ 16) := ⟨L3.app hns mv4 hat, L2.2, by simp; omega⟩
            clear hS G2 e2 hI cu L2 L3 hns mv4 hat
            go_wp2_with (first | rw [hV2] | (at_builtin; refine wpList_append_run rfl _ _ 66 rfl _ _ _ _ rfl rfl hrun ?_))
            go_roundw
            case rel => exact ⟨j + 1, S2, _, by omega, by push_cast; rfl, L4.out⟩
            case measure => simp [intOf]; omega
        · have hp2I : ¬ (p0 : Int) < 2 := by omega
          have hR := hidP (receive_any S wr hI.out.1.f.g)
          rw [hI.out.1.bt] at hR
          cases ws with
          | nil =>
            obtain rfl : m = 0 := hm.symm
            rw [recv_none' hI.out.2.1] at hR
            simp only [zP] at hR
            go_wp2_with fail
            refine hR.out.mono ?_
            rintro e W2 ⟨rfl, S2, G2, e2⟩
            have L2 : Hid (∀ W, Below W2.heap.size W2 W → Lw w bt (.slice p 0 c) [] S2 W ∧ (pl S2).ms = ([] : List Int).map tag ∧ ([] : List Int).length ≤ 16) := fun W hb => ⟨(hI.out.1.step G2).below hb, by rw [e2]; exact hI.out.2.1, by simp⟩
            clear hR G2 e2 hI cu
            go_wp2_with fail
            go_quiet (fail)
            obtain ⟨W6, hW6⟩ : ∃ W6, (W2.alloc (.cells #[.int .i64 0, .string ⟨#[]⟩] 49)).drewN nq = W6 := ⟨_, rfl⟩
            rw [hW6]
            have L6 := hidP (L2.out W6 (by rw [← hW6]; exact below_drewN ((Below.refl _ _).alloc (Nat.le_refl _) _) _))
            clear L2 hW6
            go_wp2_with fail
            go_roundw
            case rel => exact ⟨j + 1, S2, _, by omega, by push_cast; rfl, L6.out⟩
            case measure => simp [intOf]; omega
          | cons x r =>
            rw [recv_ok' hI.out.2.1] at hR
            simp only [tag, tT] at hR
            obtain ⟨g, q, cp, hsl, hx0, hcap, hcm, hcut⟩ := hI.out.1.r.cut
            injection hsl with e1 e2 e3
            subst e1 e2 e3
            obtain ⟨nr, hnr⟩ : ∃ nr, r.length = nr := ⟨_, rfl⟩
            rw [hnr] at hcap hcut hI ⊢
            have hn0 : (0 : Int) < (nr : Int) + 1 := by omega
            have hn1 : (1 : Int) ≤ (nr : Int) + 1 := by omega
            have hcm2 : (c : Int) ≤ 9223372036854775807 := by unfold maxLen at hcm; omega
            have hcutH := hidP hcut
            have hx0H := hidP hx0
            clear hcut hx0 hm
            go_wp2_with fail
            refine hR.out.mono ?_
            rintro e W2 ⟨rfl, S2, G2, e2⟩
            obtain ⟨V2, hV2⟩ : ∃ V2, W2.alloc (.cells #[.int .i64 x, .string ⟨#[116]⟩] 49) = V2 := ⟨_, rfl⟩
            have hbV : Below W2.heap.size W2 V2 := by rw [← hV2]; exact (Below.refl _ _).alloc (Nat.le_refl _) _
            have hgn : ¬ hasB S g := (hI.out.1.new g rfl).2
            have hcutV : IS V2 (.slice (if c = 1 then some ⟨g, q, none⟩ else some ⟨g, q + 1, none⟩) nr (c - 1)) r := (hcutH.out.mv G2.mv (fun k hk e => by
              have : k = g := by by_cases h : c = 1 <;> simp [h, nb] at hk <;> exact hk.symm
              subst this; exact hgn e)).mv (E := fun _ => False) (Mv.below hbV) (fun _ _ h => h)
            have y0 : V2.cell? ⟨g, q, none⟩ = some (.int .i64 x) := (Mv.below (E := fun _ => False) hbV).cell (a := ⟨g, q, none⟩) (fun h => h) (G2.mv.cell (a := ⟨g, q, none⟩) hgn hx0H.out)
            have y1 : V2.cell? ⟨W2.heap.size, 0, none⟩ = some (.int .i64 x) := by rw [← hV2]; exact cell_at rfl rfl
            have y2 : V2.cell? ⟨W2.heap.size, 1, none⟩ = some (.string ⟨#[116]⟩) := by rw [← hV2]; exact cell_at rfl rfl
            have L2 : Hid (∀ W, Below V2.heap.size V2 W → Lw w bt (.slice (if c = 1 then some ⟨g, q, none⟩ else some ⟨g, q + 1, none⟩) nr (c - 1)) r S2 W ∧ (pl S2).ms = r.map tag ∧ r.length ≤ 16) := fun W hb => ⟨(((hI.out.1.step G2).below hbV).cut hcutV (by by_cases h : c = 1 <;> simp [h, nb])).below hb, by rw [e2], by have := hI.out.2.2; simp at this; omega⟩
            clear hR G2 e2 hI cu hbV hcutV hcutH hx0H hgn
            go_wp2_with (rw [hV2])
            go_quiet (fail)
            obtain ⟨W6, hW6⟩ : ∃ W6, V2.drewN nq = W6 := ⟨_, rfl⟩
            rw [hW6]
            have L6 := hidP (L2.out W6 (by rw [← hW6]; exact below_drewN (Below.refl _ _) _))
            clear L2 hW6 y0 y1 y2
            by_cases hc1 : c = 1
            · subst hc1
              obtain rfl : nr = 0 := by omega
              rw [if_pos rfl] at L6
              go_wp2_with fail
              go_roundw
              case rel => exact ⟨j + 1, S2, _, by omega, by push_cast; rfl, L6.out⟩
              case measure => simp [intOf]; omega
            · rw [if_neg hc1] at L6
              go_wp2_with fail
              go_roundw
              case rel => exact ⟨j + 1, S2, _, by omega, by push_cast; rfl, L6.out⟩
              case measure => simp [intOf]; omega
      · obtain rfl : j = n := by omega
        have hD := hidP (datagrams_any S wr hI.out.1.f.g)
        rw [hI.out.1.bt, show S.ms.length = ws.length by have := hI.out.2.1; rw [show (pl S).ms = S.ms from rfl] at this; rw [this]; simp] at hD
        obtain ⟨p, c, hv⟩ := hI.out.1.r.shape
        obtain ⟨m, hm⟩ : ∃ m, ws.length = m := ⟨_, rfl⟩
        rw [hm] at hv hD
        subst hv
        have fin := hidP hI.out.1.f.b
        clear hI
        go_wp2_with fail
        refine hD.out.mono ?_
        rintro e W2 ⟨rfl, rfl⟩
        go_wp2_with fail
        go_ret
        exact ⟨rfl, fin.out⟩
end Go.Proofs.Ytppbdamlhcmlcaa
