/- The walk of the law TreeHolds. -/
import Derived.Test.YtcpabmceioijpaaDoorHM
import Derived.Test.YtcpabmceioijpaaDoorP6q
import Derived.Deep.CutRange
import Derived.Deep.RegionWith
namespace Go.Proofs.YtcpabmceioijpaaDoor
open Go.RowKit Go.Shelf
attribute [local go_sem] Oper.semAt_some
/-- Nothing has turned since W. -/
structure QB (W V : World) : Prop where
  b : Below W.heap.size W V
set_option maxRecDepth 100000 in
set_option maxHeartbeats 16000000 in
theorem holds_walk (a : Option Addr) (b o n cap : Nat) (us : List Nat) (w : World) (hg : Mx w) (ha : 0 < n → a = some ⟨b, o, none⟩) (hl : us.length = n) (hel : ∀ (j u : Nat), us[j]? = some u → w.cell? ⟨b, o + j, none⟩ = some (.int .u8 (u : Nat))) (hub : ∀ u ∈ us, u ≤ 255) (hml : n ≤ maxLen) :
    Calls Tryd.prog 4 #[.slice a n cap] w fun e w' => e = .returned (.bool true) ∧ Below w.heap.size w w' := by
  have hK := hidP (known_any w hg)
  have haH := hidP ha
  have hlH := hidP hl
  have helH := hidP hel
  have hubH := hidP hub
  have hnm : (n : Int) ≤ 9223372036854775807 := by unfold maxLen at hml; omega
  have hgH := hidP hg
  clear ha hl hel hub hml hg
  by_cases h8 : 80 < n
  · have h8I : (80 : Int) < (n : Int) := by omega
    go_enter Tryd.func4, Tryd.ntmps4
    go_wp2_with fail
    refine hK.out.mono ?_
    rintro e V ⟨rfl, hbV⟩
    go_wp2_with fail
    go_ret
    exact ⟨rfl, hbV⟩
  · have h8I : ¬ (80 : Int) < (n : Int) := by omega
    have h8J : (n : Int) ≤ 80 := by omega
    go_enter Tryd.func4, Tryd.ntmps4
    go_wp2_with fail
    refine hK.out.mono ?_
    rintro e V ⟨rfl, hbV⟩
    obtain ⟨V1, hV1⟩ : ∃ V1, (V.alloc (.cells #[.string ⟨#[47, 97]⟩, .string ⟨#[47, 97, 47, 98]⟩, .string ⟨#[47, 97, 47, 98, 47, 99]⟩, .string ⟨#[47, 97, 47, 100]⟩, .string ⟨#[47, 101]⟩, .string ⟨#[47, 101, 47, 102]⟩] 53)).alloc (.cells #[.int .i64 (-1), .int .i64 0, .int .i64 1, .int .i64 0, .int .i64 (-1), .int .i64 4] 54) = V1 := ⟨_, rfl⟩
    have b1 : Below w.heap.size w V1 := by rw [← hV1]; exact (hbV.alloc hbV.size _).alloc (by have := hbV.size; simp; omega) _
    have g1 : Mx V1 := hgH.out.mv (E := fun _ => False) (Mv.below b1) (fun h => h)
    have hN := hidP (new_any V1 g1)
    have n1 : Arr V1 V.heap.size (fun k => .string (nh k)) := fun k hk => by
      rw [← hV1]
      refine ⟨(World.cell?_alloc_lt _ _ _ (by simp)).trans (cell_at rfl (by match k, hk with | 0, _ => rfl | 1, _ => rfl | 2, _ => rfl | 3, _ => rfl | 4, _ => rfl | 5, _ => rfl)), ?_⟩
      rw [World.frozen?_of_block (Below.heap_alloc _ _ _ (by simp))]
      exact froz_new rfl
    have u1 : Arr V1 (V.heap.size + 1) (fun k => .int .i64 (uI k)) := fun k hk => by
      rw [← hV1]
      exact ⟨cell_at (by simp) (by match k, hk with | 0, _ => rfl | 1, _ => rfl | 2, _ => rfl | 3, _ => rfl | 4, _ => rfl | 5, _ => rfl), froz_new (by simp)⟩
    have hH := hidP (And.intro b1 (And.intro n1 u1))
    clear hK hbV b1 g1 n1 u1
    go_wp2_with (rw [hV1])
    refine hN.out.mono ?_
    rintro e W1 ⟨S, rfl, hT, hp, hc, hb, m1, m2, m3⟩
    obtain ⟨b1, n1, u1⟩ := hH.out
    obtain ⟨N, hNe⟩ : ∃ N, V.heap.size = N := ⟨_, rfl⟩
    have hsz := b1.size
    rw [hNe] at n1 u1
    have l1 := n1.lt
    have l2 := u1.lt
    obtain ⟨W2, hW2⟩ : ∃ W2, (W1.alloc (.cells #[.bool false, .bool false, .bool false, .bool false, .bool false, .bool false] 55)).alloc (.cells #[.bool false, .bool false, .bool false, .bool false, .bool false, .bool false] 55) = W2 := ⟨_, rfl⟩
    have b2 : Below W1.heap.size W1 W2 := by rw [← hW2]; exact ((Below.refl _ _).alloc (Nat.le_refl _) _).alloc (by simp) _
    obtain ⟨A, hA⟩ : ∃ A, W1.heap.size = A := ⟨_, rfl⟩
    have hbs := hb.size
    have L1 : Hid (LtI w N (N + 1) A (A + 1) S 0 W2 ∧ S.c = 1) := by
      have F1 : Fr w S W1 := ⟨hT, b1.trans (hb.mono b1.size), by omega, by omega, by omega⟩
      have hbt := hT.lt (k := S.bt) (.inl rfl)
      have hmx := mxne hT.mx
      have mb : Mv (fun _ => False) V1 W1 := Mv.below hb
      have mb2 : Mv (fun _ => False) W1 W2 := Mv.below b2
      refine ⟨⟨_, _, S.p, 0, ⟨F1.below b2, (n1.mv mb (fun h => h)).mv mb2 (fun h => h), (u1.mv mb (fun h => h)).mv mb2 (fun h => h), fun k hk => ?_, fun k hk => ?_, ⟨?_, ?_, ?_, ?_, ?_, ?_⟩, ⟨?_, ?_, ?_, ?_, ?_⟩⟩, by rw [hp]; exact HI.zero, Nat.le_refl _⟩, hc⟩
      · rw [← hW2, ← hA]
        refine ⟨(World.cell?_alloc_lt _ _ _ (by simp)).trans (cell_at rfl (by match k, hk with | 0, _ => rfl | 1, _ => rfl | 2, _ => rfl | 3, _ => rfl | 4, _ => rfl | 5, _ => rfl)), ?_⟩
        rw [World.frozen?_of_block (Below.heap_alloc _ _ _ (by simp))]
        exact froz_new rfl
      · rw [← hW2, ← hA]
        exact ⟨cell_at (by simp) (by match k, hk with | 0, _ => rfl | 1, _ => rfl | 2, _ => rfl | 3, _ => rfl | 4, _ => rfl | 5, _ => rfl), froz_new (by simp)⟩
      all_goals first | (show _ ≠ S.bt; omega) | omega
    rw [hNe]
    clear hN hT hp hc hb m1 m2 m3 b1 n1 u1 hNe hsz hV1 hH l1 l2 b2 hbs
    go_wp2_with (rw [hW2])
    clear hW2 hA
    go_loopw [8] (fun i wr => ∃ (j : Nat), j ≤ n ∧ i = .int .i64 j ∧ Hid (LtI w N (N + 1) A (A + 1) S (4 * j) wr ∧ S.c = 1)) (fun i _ => n - (intOf i).toNat)
    case atStart => exact ⟨0, by omega, rfl, L1.out⟩
    case round =>
      clear L1
      obtain ⟨j2, hj5, rfl, hI5⟩ := hrel
      by_cases hlt5 : j2 < n
      · have hltI5 : (j2 : Int) < (n : Int) := by omega
        obtain rfl := haH.out (by omega)
        obtain ⟨u, hu⟩ : ∃ u, us[j2]? = some u := ⟨us[j2]'(by have := hlH.out; omega), List.getElem?_eq_getElem _⟩
        have hbw : Below w.heap.size w wr := by obtain ⟨th, fd, P, d, h1, _⟩ := hI5.out.1; exact h1.f.b
        have cu := (Mv.below (E := fun _ => False) hbw).cell (fun h => h) (helH.out j2 u hu)
        have hu255 := hubH.out u (List.mem_of_getElem? hu)
        obtain ⟨k, hkk⟩ : ∃ k, u % 6 = k := ⟨_, rfl⟩
        have hmod : ((u : Nat) : Int).tmod 6 = (k : Int) := by rw [Int.tmod_eq_emod_of_nonneg (by omega)]; omega
        have hk6 : k < 6 := by omega
        obtain ⟨W3, hW3⟩ : ∃ W3, wr.alloc (.cells #[.int .i64 0, .int .i64 0, .int .i64 0, .int .i64 0, .int .i64 0, .int .i64 0] 54) = W3 := ⟨_, rfl⟩
        obtain ⟨D, hD⟩ : ∃ D, wr.heap.size = D := ⟨_, rfl⟩
        have hcu : Hid (∀ W, Below w.heap.size w W → W.cell? ⟨b, o + j2, none⟩ = some (.int .u8 (u : Nat))) := fun W hb => (Mv.below (E := fun _ => False) hb).cell (fun h => h) (helH.out j2 u hu)
        have hI3 : Hid (∃ th fd P d, LtW w N (N + 1) A (A + 1) D th fd S P d (4 * j2) W3 ∧ Arr W3 D (fun _ => .int .i64 0) ∧ S.c = 1) := by
          obtain ⟨⟨th, fd, P, d, h1, h2, h3⟩, hc⟩ := hI5.out
          have b3 : Below wr.heap.size wr W3 := by rw [← hW3]; exact (Below.refl _ _).alloc (Nat.le_refl _) _
          have q1 := h1.n.lt
          have q2 := h1.u.lt
          have q3 := h1.a.lt
          have q4 := h1.b.lt
          refine ⟨th, fd, P, d, ⟨h1.below b3, h2, h3, fun x hx => ?_, by omega, by omega, by omega, by omega, by have := h1.f.b.size; omega⟩, fun q hq => ?_, hc⟩
          · have := h1.f.g.lt (k := x) hx; omega
          · rw [← hW3]
            exact ⟨cell_at hD (by match q, hq with | 0, _ => rfl | 1, _ => rfl | 2, _ => rfl | 3, _ => rfl | 4, _ => rfl | 5, _ => rfl), froz_new hD⟩
        obtain ⟨x6, hx6⟩ : ∃ x6, u / 6 = x6 := ⟨_, rfl⟩
        have hw6 : Hid (IntKind.u8.wrap ((u : Int) / 6) = (x6 : Int)) := by show _ = _; rw [IntKind.wrap_u8]; omega
        obtain ⟨op, hop⟩ : ∃ op, x6 % 3 = op := ⟨_, rfl⟩
        have ht6 : Hid ((x6 : Int).tmod 3 = (op : Int)) := by show _ = _; rw [Int.tmod_eq_emod_of_nonneg (by omega)]; omega
        obtain ⟨x18, hx18⟩ : ∃ x18, u / 18 = x18 := ⟨_, rfl⟩
        have hw18 : Hid (IntKind.u8.wrap ((u : Int) / 18) = (x18 : Int)) := by show _ = _; rw [IntKind.wrap_u8]; omega
        obtain ⟨ff, hff⟩ : ∃ ff, x18 % 4 = ff := ⟨_, rfl⟩
        have ht18 : Hid ((x18 : Int).tmod 4 = (ff : Int)) := by show _ = _; rw [Int.tmod_eq_emod_of_nonneg (by omega)]; omega
        have hop3 : Hid (op < 3) := by show _ < _; omega
        have hn80 : Hid (j2 < 80 ∧ n ≤ 80) := ⟨by omega, by omega⟩
        clear hu hkk hbw hI5 hx6 hop hx18 hff
        go_wp2_with (rw [hW3])
        clear hW3 hD hmod
        obtain ⟨th, fd, P, d, hL3, hA3, hc1⟩ := hI3.out
        have hL3H := hidP (And.intro hL3 (And.intro hA3 hc1))
        clear hL3 hA3 hc1 hI3
        go_loopw [11] (fun i wr => ∃ (q : Nat), q ≤ 6 ∧ i = .int .i64 q ∧ Hid (LtW w N (N + 1) A (A + 1) D th fd S P d (4 * j2) wr ∧ Arr wr D (fun x => .int .i64 (if x < q then P.st (nh x) else 0)) ∧ S.c = 1)) (fun i _ => 6 - (intOf i).toNat)
        case atStart => exact ⟨0, by omega, rfl, hL3H.out.1, hL3H.out.2.1.cong (fun x _ => by simp), hL3H.out.2.2⟩
        case round =>
          clear hL3H
          obtain ⟨q, hq6, rfl, hI7⟩ := hrel
          by_cases hlt7 : q < 6
          · have hltI7 : (q : Int) < 6 := by omega
            obtain ⟨hL, hA, hc1⟩ := hI7.out
            have cN := (hL.l.n q hlt7).1
            simp only at cN
            have hS : Calls Tryd.prog 24 #[.pointer (some ⟨S.bt, 0, none⟩), .string (nh q)] wr fun e w' => e = .returned (.int .i64 (P.st (nh q))) ∧ w' = wr := stamp_any _ (nh q) wr hL.l.f.g (by have := nh_size q; omega)
            have hSH := hidP hS
            have cD := (hA q hlt7).1
            have fD := (hA q hlt7).2
            have hfin : Hid (LtW w N (N + 1) A (A + 1) D th fd S P d (4 * j2) (wr.setCell ⟨D, q, none⟩ (.int .i64 (P.st (nh q)))) ∧ Arr (wr.setCell ⟨D, q, none⟩ (.int .i64 (P.st (nh q)))) D (fun x => .int .i64 (if x < q + 1 then P.st (nh x) else 0)) ∧ S.c = 1) := by
              have m : Mv (fun x => x = D) wr (wr.setCell ⟨D, q, none⟩ (.int .i64 (P.st (nh q)))) := (Mv.refl (fun x => x = D) wr).setc (p := ⟨D, q, none⟩) (.inl rfl) _
              refine ⟨⟨hL.l.other m hL.x.1 ⟨hL.x.2.1, hL.x.2.2.1, hL.x.2.2.2.1, hL.x.2.2.2.2.1⟩ hL.x.2.2.2.2.2, hL.h, hL.d, hL.x⟩, (hA.set q _).cong (fun x hx => ?_), hc1⟩
              unfold upT
              by_cases e : x = q
              · subst e; rw [if_pos rfl, if_pos (by omega)]
              · rw [if_neg e]
                by_cases e2 : x < q
                · dsimp only; rw [if_pos e2, if_pos (by omega)]
                · dsimp only; rw [if_neg e2, if_neg (by omega)]
            simp only at cD
            clear hL hA hc1 hI7 hS
            go_wp2_with fail
            refine hSH.out.mono ?_
            rintro e w2 ⟨rfl, rfl⟩
            clear hSH
            go_wp2_with fail
            go_roundw
            case rel => exact ⟨q + 1, by omega, by push_cast; rfl, hfin.out⟩
            case measure => simp [intOf]; omega
          · have hgeI7 : ¬ (q : Int) < 6 := by omega
            have hI8 : Hid (LtW w N (N + 1) A (A + 1) D th fd S P d (4 * j2) wr ∧ Arr wr D (fun x => .int .i64 (P.st (nh x))) ∧ S.c = 1) := by
              obtain ⟨hL, hA, hc1⟩ := hI7.out
              exact ⟨hL, hA.cong (fun x hx => by rw [if_pos (by omega)]), hc1⟩
            have cu := hcu.out wr hI8.out.1.l.f.b
            clear hI7
            have hw6o := hw6.out
            have ht6o := ht6.out
            go_upto_region 18 with fail
            go_cut [12] from 26 to 207 (fun c wx => c = .bool false ∧ Hid (LtW w N (N + 1) A (A + 1) D th fd S P d (4 * j2) wx ∧ Arr wx D (fun x => .int .i64 (P.st (nh x))) ∧ S.c = 1))
            case first =>
              go_wp2_with fail
              go_meet
              exact ⟨rfl, hI8.out⟩
            case rest =>
              obtain ⟨rfl, hI9⟩ := hcut
              clear hI8 cu
              rename_i K1 aK1
              refine aK1 _ _ ?_
              clear aK1 K1
              have cu := hcu.out wc hI9.out.1.l.f.b
              go_step
              go_cut [12, 13, 14, 15, 16] from 26 to 207 (fun dv _ _ _ _ wx => ∃ dn : Bool, dv = .bool dn ∧ Hid (LtX w N (N + 1) A (A + 1) D S P k dn (decide (op ≠ 2)) (4 * (j2 + 1)) wx ∧ S.c = 1))
              case first =>
                have hkI : (k : Int) < 6 := by omega
                obtain ⟨hLW, hAr, hc1⟩ := hI9.out
                have hcb : S.c + d ≤ 900000 := by have := hn80.out; have := hLW.d; omega
                have hsz : (nh k).size ≤ 1000 := by have := nh_size k; omega
                have cN := (hLW.l.n k hk6).1
                have cU := (hLW.l.u k hk6).1
                obtain ⟨cA, fA⟩ := hLW.l.a k hk6
                obtain ⟨cB, fB⟩ := hLW.l.b k hk6
                simp only at cN cU cA cB
                have hLH := hidP (And.intro hLW (And.intro hAr hc1))
                have hd9 := hLW.d
                by_cases hop0 : op = 0
                · as_aux_lemma =>
                  subst hop0
                  obtain ⟨fb, hfb⟩ : ∃ fb, decide (0 < ff) = fb := ⟨_, rfl⟩
                  have hw18o := hw18.out
                  have ht18o := ht18.out
                  clear hLW hAr hc1 hI9
                  go_upto_region 27 with fail
                  go_cut [14] from 26 to 207 (fun c wx => c = .bool (mkOk th fd k) ∧ wx = wc)
                  case first =>
                    cases hthk : th k with
                    | true =>
                      rw [hthk] at cA
                      have hmk : Hid (mkOk th fd k = false) := by show _ = _; unfold mkOk; rw [hthk]; rfl
                      clear hLH
                      go_wp2_with fail
                      go_meet
                      exact ⟨by rw [hmk.out], rfl⟩
                    | false =>
                      rw [hthk] at cA
                      cases huk : uh k with
                      | none =>
                        have hu1 : uI k = -1 := by unfold uI; rw [huk]
                        rw [hu1] at cU
                        have hmk : Hid (mkOk th fd k = true) := by show _ = _; unfold mkOk upOk; rw [hthk, huk]; rfl
                        clear hLH
                        go_wp2_with fail
                        go_meet
                        exact ⟨by rw [hmk.out], rfl⟩
                      | some i =>
                        have hu1 : uI k = (i : Int) := by unfold uI; rw [huk]
                        rw [hu1] at cU
                        have hi6 := uh_lt ⟨k, hk6⟩ i huk
                        have hiI : (i : Int) < 6 := by omega
                        have hi0 : ¬ (i : Int) < 0 := by omega
                        have cAi := (hLH.out.1.l.a i hi6).1
                        have cBi := (hLH.out.1.l.b i hi6).1
                        simp only at cAi cBi
                        cases hthi : th i with
                        | false =>
                          rw [hthi] at cAi
                          have hmk : Hid (mkOk th fd k = false) := by show _ = _; unfold mkOk upOk; rw [hthk, huk]; simp [hthi]
                          clear hLH
                          go_wp2_with fail
                          go_meet
                          exact ⟨by rw [hmk.out], rfl⟩
                        | true =>
                          rw [hthi] at cAi
                          have hmk : Hid (mkOk th fd k = fd i) := by show _ = _; unfold mkOk upOk; rw [hthk, huk]; simp [hthi]
                          obtain ⟨fdi, hfdi⟩ : ∃ x, fd i = x := ⟨_, rfl⟩
                          rw [hfdi] at cBi hmk
                          clear hLH
                          go_wp2_with fail
                          go_meet
                          exact ⟨by rw [hmk.out], rfl⟩
                  case rest =>
                    obtain ⟨rfl, rfl⟩ := hcut
                    try rw [hfb]
                    clear hfb
                    have hMk : Calls Tryd.prog 10 #[.pointer (some ⟨S.bt, 0, none⟩), .string (nh k), .bool fb] wc fun e w' => e = .returned (.int .i64 (makeP P (nh k) fb).1) ∧ Goes { S with p := P, c := S.c + d } wc (makeP P (nh k) fb).2 4 w' := make_any _ (nh k) fb wc hLH.out.1.l.f.g hsz hcb
                    cases hmk : mkOk th fd k with
                    | true =>
                      obtain ⟨hz, hHI, hHS⟩ := hLH.out.1.h.make hk6 fb hmk
                      rw [hz] at hMk
                      have hMH := hidP hMk
                      have hfin : Hid (∀ W', Goes { S with p := P, c := S.c + d } wc (makeP P (nh k) fb).2 4 W' → (W'.cell? ⟨A, k, none⟩ = some (.bool (th k)) ∧ W'.frozen? ⟨A, k, none⟩ = false ∧ (W'.setCell ⟨A, k, none⟩ (.bool true)).cell? ⟨A + 1, k, none⟩ = some (.bool (fd k)) ∧ (W'.setCell ⟨A, k, none⟩ (.bool true)).frozen? ⟨A + 1, k, none⟩ = false) ∧ Hid (LtX w N (N + 1) A (A + 1) D S P k true (decide ((0 : Nat) ≠ 2)) (4 * (j2 + 1)) ((W'.setCell ⟨A, k, none⟩ (.bool true)).setCell ⟨A + 1, k, none⟩ (.bool fb)) ∧ S.c = 1)) := fun W' g => by
                        have L := hLH.out.1.l.step g
                        have L2 := L.setA k true
                        have L3 := L2.setB k fb
                        refine ⟨⟨(L.a k hk6).1, (L.a k hk6).2, (L2.b k hk6).1, (L2.b k hk6).2⟩, ⟨_, _, _, d + 4, ⟨by rw [show ({ S with p := P, c := S.c + d } : St).c + 4 = S.c + (d + 4) from Nat.add_assoc _ _ _] at L3; exact L3, hHI, by omega, hLH.out.1.x⟩, ?_, hHS⟩, hLH.out.2.2⟩
                        have m1 : Mv (fun x => x = A) W' (W'.setCell ⟨A, k, none⟩ (.bool true)) := (Mv.refl (fun x => x = A) W').setc (p := ⟨A, k, none⟩) (.inl rfl) _
                        have m2 : Mv (fun x => x = A + 1) (W'.setCell ⟨A, k, none⟩ (.bool true)) ((W'.setCell ⟨A, k, none⟩ (.bool true)).setCell ⟨A + 1, k, none⟩ (.bool fb)) := (Mv.refl (fun x => x = A + 1) _).setc (p := ⟨A + 1, k, none⟩) (.inl rfl) _
                        exact ((hLH.out.1.arr g hLH.out.2.1).mv m1 (fun e => hLH.out.1.x.2.2.2.1 e.symm)).mv m2 (fun e => hLH.out.1.x.2.2.2.2.1 e.symm)
                      clear hLH hMk hHI hHS hz hcb hsz cA cB cU fA fB
                      go_wp2_with fail
                      refine hMH.out.mono ?_
                      rintro e W7 ⟨rfl, g7⟩
                      obtain ⟨⟨c1, c2, c3, c4⟩, fin⟩ := hfin.out _ g7
                      obtain ⟨V7, hV7⟩ : ∃ V7, W7.setCell ⟨A, k, none⟩ (.bool true) = V7 := ⟨_, rfl⟩
                      rw [hV7] at c3 c4 fin
                      clear g7 hfin hMH
                      go_wp2_with (rw [hV7])
                      go_meet
                      exact ⟨true, rfl, fin⟩
                    | false =>
                      obtain ⟨e0, he0, hne⟩ := hLH.out.1.h.make_no hk6 fb hmk
                      rw [he0] at hMk
                      have hMH := hidP hMk
                      have heB : (e0 == 0) = false := by simpa using hne
                      have hfin : Hid (∀ W', Goes { S with p := P, c := S.c + d } wc P 4 W' → Hid (LtX w N (N + 1) A (A + 1) D S P k false (decide ((0 : Nat) ≠ 2)) (4 * (j2 + 1)) W' ∧ S.c = 1)) := fun W' g => by
                        have L := hLH.out.1.l.step g
                        exact ⟨⟨_, _, P, d + 4, ⟨by rw [show ({ S with p := P, c := S.c + d } : St).c + 4 = S.c + (d + 4) from Nat.add_assoc _ _ _] at L; exact L, hLH.out.1.h, by omega, hLH.out.1.x⟩, hLH.out.1.arr g hLH.out.2.1, HS.refl _ _ _⟩, hLH.out.2.2⟩
                      clear hLH hMk hcb hsz cA cB cU fA fB he0
                      go_wp2_with fail
                      refine hMH.out.mono ?_
                      rintro e W7 ⟨rfl, g7⟩
                      have fin := hfin.out _ g7
                      clear g7 hfin hMH
                      go_wp2_with fail
                      go_meet
                      exact ⟨false, rfl, fin⟩
                · have hb0 : ((op : Int) == 0) = false := by simp; omega
                  by_cases hop1 : op = 1
                  · as_aux_lemma =>
                    subst hop1
                    clear hLW hAr hc1 hI9 hb0
                    go_wp2_with fail
                    go_loopw [15, 16] (fun c i wr => ∃ q3 : Nat, q3 ≤ 6 ∧ i = .int .i64 q3 ∧ c = .bool (rmQ th k q3) ∧ wr = wc) (fun _ i _ => 6 - (intOf i).toNat)
                    case atStart => exact ⟨0, by omega, rfl, rfl, rfl⟩
                    case round =>
                      obtain ⟨q3, hq3, rfl, rfl, rfl⟩ := hrel
                      by_cases hlt3 : q3 < 6
                      · have hltI3 : (q3 : Int) < 6 := by omega
                        have cA3 := (hLH.out.1.l.a q3 hlt3).1
                        have cU3 := (hLH.out.1.l.u q3 hlt3).1
                        simp only at cA3 cU3
                        obtain ⟨r3, hr3⟩ : ∃ x, rmQ th k q3 = x := ⟨_, rfl⟩
                        rw [hr3]
                        cases r3 with
                        | false =>
                          have hnx : Hid (rmQ th k (q3 + 1) = false) := by show _ = _; unfold rmQ; rw [hr3]; rfl
                          clear hr3 hLH
                          go_wp2_with fail
                          go_roundw
                          case rel => exact ⟨q3 + 1, by omega, by push_cast; rfl, by rw [hnx.out], by first | trivial | rfl⟩
                          case measure => simp [intOf]; omega
                        | true =>
                          obtain ⟨t3, ht3⟩ : ∃ x, th q3 = x := ⟨_, rfl⟩
                          rw [ht3] at cA3
                          cases t3 with
                          | false =>
                            have hnx : Hid (rmQ th k (q3 + 1) = true) := by show _ = _; unfold rmQ bare; rw [hr3, ht3]; rfl
                            clear hr3 hLH ht3
                            go_wp2_with fail
                            go_roundw
                            case rel => exact ⟨q3 + 1, by omega, by push_cast; rfl, by rw [hnx.out], by first | trivial | rfl⟩
                            case measure => simp [intOf]; omega
                          | true =>
                            obtain ⟨uv, huv⟩ : ∃ x, uI q3 = x := ⟨_, rfl⟩
                            rw [huv] at cU3
                            by_cases huk : uv = (k : Int)
                            · have hnx : Hid (rmQ th k (q3 + 1) = false) := by show _ = _; unfold rmQ bare; rw [hr3, ht3, huv]; simp [huk]
                              have hub : (uv == (k : Int)) = true := by simpa using huk
                              clear hr3 hLH ht3 huv huk
                              go_wp2_with fail
                              go_roundw
                              case rel => exact ⟨q3 + 1, by omega, by push_cast; rfl, by rw [hnx.out], by first | trivial | rfl⟩
                              case measure => simp [intOf]; omega
                            · have hnx : Hid (rmQ th k (q3 + 1) = true) := by show _ = _; unfold rmQ bare; rw [hr3, ht3, huv]; simp [huk]
                              have hub : (uv == (k : Int)) = false := by simpa using huk
                              clear hr3 hLH ht3 huv huk
                              go_wp2_with fail
                              go_roundw
                              case rel => exact ⟨q3 + 1, by omega, by push_cast; rfl, by rw [hnx.out], by first | trivial | rfl⟩
                              case measure => simp [intOf]; omega
                      · have hgeI3 : ¬ (q3 : Int) < 6 := by omega
                        have hrm : rmQ th k q3 = rmOk th k := by rw [show q3 = 6 by omega]; exact rmQ_ok th k
                        have hRm : Calls Tryd.prog 14 #[.pointer (some ⟨S.bt, 0, none⟩), .string (nh k)] wr fun e w' => e = .returned (.int .i64 (removeP P (nh k)).1) ∧ Goes { S with p := P, c := S.c + d } wr (removeP P (nh k)).2 4 w' := remove_any _ (nh k) wr hLH.out.1.l.f.g hLH.out.1.h.wf hsz hcb
                        rw [hrm]
                        cases hmk : rmOk th k with
                        | true =>
                          obtain ⟨hz, hHI, hHS⟩ := hLH.out.1.h.rem hk6 hmk
                          rw [hz] at hRm
                          have hMH := hidP hRm
                          have hfin : Hid (∀ W', Goes { S with p := P, c := S.c + d } wr (removeP P (nh k)).2 4 W' → (W'.cell? ⟨A, k, none⟩ = some (.bool (th k)) ∧ W'.frozen? ⟨A, k, none⟩ = false) ∧ Hid (LtX w N (N + 1) A (A + 1) D S P k true (decide ((1 : Nat) ≠ 2)) (4 * (j2 + 1)) (W'.setCell ⟨A, k, none⟩ (.bool false)) ∧ S.c = 1)) := fun W' g => by
                            have L := hLH.out.1.l.step g
                            have L2 := L.setA k false
                            refine ⟨⟨(L.a k hk6).1, (L.a k hk6).2⟩, ⟨_, _, _, d + 4, ⟨by rw [show ({ S with p := P, c := S.c + d } : St).c + 4 = S.c + (d + 4) from Nat.add_assoc _ _ _] at L2; exact L2, hHI, by omega, hLH.out.1.x⟩, ?_, hHS⟩, hLH.out.2.2⟩
                            have m1 : Mv (fun x => x = A) W' (W'.setCell ⟨A, k, none⟩ (.bool false)) := (Mv.refl (fun x => x = A) W').setc (p := ⟨A, k, none⟩) (.inl rfl) _
                            exact (hLH.out.1.arr g hLH.out.2.1).mv m1 (fun e => hLH.out.1.x.2.2.2.1 e.symm)
                          clear hLH hRm hHI hHS hz hcb hsz cA cB cU fA fB hrm
                          go_wp2_with fail
                          refine hMH.out.mono ?_
                          rintro e W7 ⟨rfl, g7⟩
                          obtain ⟨⟨c1, c2⟩, fin⟩ := hfin.out _ g7
                          clear g7 hfin hMH
                          go_wp2_with fail
                          go_meet
                          exact ⟨true, rfl, fin⟩
                        | false =>
                          obtain ⟨e0, he0, hne⟩ := hLH.out.1.h.rem_no hk6 hmk
                          rw [he0] at hRm
                          have hMH := hidP hRm
                          have heB : (e0 == 0) = false := by simpa using hne
                          have hfin : Hid (∀ W', Goes { S with p := P, c := S.c + d } wr P 4 W' → Hid (LtX w N (N + 1) A (A + 1) D S P k false (decide ((1 : Nat) ≠ 2)) (4 * (j2 + 1)) W' ∧ S.c = 1)) := fun W' g => by
                            have L := hLH.out.1.l.step g
                            exact ⟨⟨_, _, P, d + 4, ⟨by rw [show ({ S with p := P, c := S.c + d } : St).c + 4 = S.c + (d + 4) from Nat.add_assoc _ _ _] at L; exact L, hLH.out.1.h, by omega, hLH.out.1.x⟩, hLH.out.1.arr g hLH.out.2.1, HS.refl _ _ _⟩, hLH.out.2.2⟩
                          clear hLH hRm hcb hsz cA cB cU fA fB he0 hrm
                          go_wp2_with fail
                          refine hMH.out.mono ?_
                          rintro e W7 ⟨rfl, g7⟩
                          have fin := hfin.out _ g7
                          clear g7 hfin hMH
                          go_wp2_with fail
                          go_meet
                          exact ⟨false, rfl, fin⟩
                  · as_aux_lemma =>
                    have hop2 : op = 2 := by have := hop3.out; omega
                    subst hop2
                    have hb1 : ((2 : Int) == 1) = false := by decide
                    have hTt : Calls Tryd.prog 12 #[.pointer (some ⟨S.bt, 0, none⟩), .string (nh k)] wc fun e w' => e = .returned (.int .i64 (touchP P (nh k)).1) ∧ Goes { S with p := P, c := S.c + d } wc (touchP P (nh k)).2 1 w' := touch_any _ (nh k) wc hLH.out.1.l.f.g hsz hcb
                    clear hLW hAr hc1 hI9 hb0
                    cases hthk : th k with
                    | false =>
                      rw [hthk] at cA
                      rw [hLH.out.1.h.touch_no hk6 hthk] at hTt
                      have hMH := hidP hTt
                      have hfin : Hid (∀ W', Goes { S with p := P, c := S.c + d } wc P 1 W' → W'.cell? ⟨A, k, none⟩ = some (.bool false) ∧ ∀ V', Below W'.heap.size W' V' → Hid (LtX w N (N + 1) A (A + 1) D S P k false (decide ((2 : Nat) ≠ 2)) (4 * (j2 + 1)) V' ∧ S.c = 1)) := fun W' g => by
                        have L := hLH.out.1.l.step g
                        refine ⟨by rw [← hthk]; exact (L.a k hk6).1, fun V' hb => ⟨⟨_, _, P, d + 1, ⟨by have := L.below hb; rw [show ({ S with p := P, c := S.c + d } : St).c + 1 = S.c + (d + 1) from Nat.add_assoc _ _ _] at this; exact this, hLH.out.1.h, by omega, hLH.out.1.x⟩, (hLH.out.1.arr g hLH.out.2.1).mv (E := fun _ => False) (Mv.below hb) (fun h => h), HS.refl _ _ _⟩, hLH.out.2.2⟩⟩
                      clear hLH hTt hcb hsz cA cB cU fA fB
                      go_wp2_with fail
                      refine hMH.out.mono ?_
                      rintro e W7 ⟨rfl, g7⟩
                      obtain ⟨c1, fin⟩ := hfin.out _ g7
                      have finH := hidP fin
                      clear g7 hfin hMH fin
                      go_wp2_with fail
                      go_quiet (fail)
                      obtain ⟨W8, hW8⟩ : ∃ W8, W7.drewN nq = W8 := ⟨_, rfl⟩
                      rw [hW8]
                      have fin8 := finH.out W8 (by rw [← hW8]; exact below_drewN (Below.refl _ _) _)
                      clear finH hW8 c1
                      go_wp2_with fail
                      go_meet
                      exact ⟨false, rfl, fin8⟩
                    | true =>
                      rw [hthk] at cA
                      obtain ⟨hz, hHI, hHS⟩ := hLH.out.1.h.touch hk6 hthk
                      rw [hz] at hTt
                      have hMH := hidP hTt
                      obtain ⟨sv, hsv⟩ : ∃ x, P.st (nh k) = x := ⟨_, rfl⟩
                      have hsb := hLH.out.1.l.f.g.b3 (nh k)
                      have hsb1 : 0 ≤ sv ∧ sv ≤ 900000 := by rw [← hsv]; exact ⟨hsb.1, by have := hsb.2; simp only at this; omega⟩
                      have hwr : IntKind.i64.wrap (sv + 1) = sv + 1 := by rw [IntKind.wrap_i64]; omega
                      have hfin : Hid (∀ W', Goes { S with p := P, c := S.c + d } wc { P with st := bump P.st (nh k) } 1 W' → (W'.cell? ⟨A, k, none⟩ = some (.bool true) ∧ W'.cell? ⟨N, k, none⟩ = some (.string (nh k)) ∧ W'.cell? ⟨D, k, none⟩ = some (.int .i64 sv)) ∧ (∀ V', Below W'.heap.size W' V' → Calls Tryd.prog 24 #[.pointer (some ⟨S.bt, 0, none⟩), .string (nh k)] V' fun e u => e = .returned (.int .i64 (sv + 1)) ∧ u = V') ∧ ∀ V', Below W'.heap.size W' V' → Hid (LtX w N (N + 1) A (A + 1) D S P k true (decide ((2 : Nat) ≠ 2)) (4 * (j2 + 1)) V' ∧ S.c = 1)) := fun W' g => by
                        have L := hLH.out.1.l.step g
                        have aD := hLH.out.1.arr g hLH.out.2.1
                        refine ⟨⟨by rw [← hthk]; exact (L.a k hk6).1, (L.n k hk6).1, by rw [← hsv]; exact (aD k hk6).1⟩, fun V' hb => ?_, fun V' hb => ⟨⟨_, _, _, d + 1, ⟨by have := L.below hb; rw [show ({ S with p := P, c := S.c + d } : St).c + 1 = S.c + (d + 1) from Nat.add_assoc _ _ _] at this; exact this, hHI, by omega, hLH.out.1.x⟩, aD.mv (E := fun _ => False) (Mv.below hb) (fun h => h), hHS⟩, hLH.out.2.2⟩⟩
                        have : Calls Tryd.prog 24 #[.pointer (some ⟨S.bt, 0, none⟩), .string (nh k)] V' fun e u => e = .returned (.int .i64 (bump P.st (nh k) (nh k))) ∧ u = V' := stamp_any _ (nh k) V' (L.below hb).f.g hsz
                        rw [show bump P.st (nh k) (nh k) = sv + 1 by unfold bump; rw [up_same, hsv]] at this
                        exact this
                      clear hLH hTt hcb hsz cA cB cU fA fB hz hHI hHS hsv hsb
                      go_wp2_with fail
                      refine hMH.out.mono ?_
                      rintro e W7 ⟨rfl, g7⟩
                      obtain ⟨⟨c1, c2, c3⟩, hSt, fin⟩ := hfin.out _ g7
                      have finH := hidP fin
                      have hStH := hidP hSt
                      clear g7 hfin hMH fin hSt
                      have hC0 : Hid (QB W7 { W7 with drawn := W7.drawn + 1 }) := ⟨(Below.refl _ W7).drew⟩
                      have hF : Hid (∀ W, QB W7 W → W.cell? ⟨N, k, none⟩ = some (.string (nh k)) ∧ W.cell? ⟨D, k, none⟩ = some (.int .i64 sv)) := fun W hb => ⟨(hb.b.cell (World.block_lt_of_cell? _ _ c2)).trans c2, (hb.b.cell (World.block_lt_of_cell? _ _ c3)).trans c3⟩
                      have hSq : Hid (∀ W, QB W7 W → Calls Tryd.prog 24 #[.pointer (some ⟨S.bt, 0, none⟩), .string (nh k)] W fun e V => e = .returned (.int .i64 (sv + 1)) ∧ QB W7 V) := fun W hb => (hStH.out W hb.b).mono (fun e V h => ⟨h.1, by rw [h.2]; exact hb⟩)
                      clear hStH c2 c3
                      go_upto_region 23 with fail
                      have hconst : ∀ p : Prop, (∀ w', QB W7 w' → p) = p := fun p => propext ⟨fun h => h _ hC0.out, fun h _ _ => h⟩
                      refine region_WQ (C := QB W7) (by kernel_rfl) (by kernel_rfl) hC0.out ?_
                      iterate 5 (refine WQ_step (fun K hK => ?_); simp only [SQ_eq]; go_simp; refine hK _ ?_; clear hK K)
                      refine WQ_step (fun K hK => ?_); simp only [SQ_eq]; go_simp; refine Exists.intro (.string (nh k)) (And.intro (fun w' hw => (by have h := ((hF.out w' hw).1); simp [h])) ?_); go_simp; refine hK _ ?_; clear hK K
                      refine WQ_step (fun K hK => ?_); simp only [SQ_eq]; go_simp; refine Exists.intro (.int .i64 (sv + 1)) (And.intro (fun w' hw => hSq.out w' hw) ?_); go_simp; refine hK _ ?_; clear hK K
                      iterate 2 (refine WQ_step (fun K hK => ?_); simp only [SQ_eq]; go_simp; refine hK _ ?_; clear hK K)
                      refine WQ_step (fun K hK => ?_); simp only [SQ_eq]; go_simp; refine Exists.intro (.int .i64 sv) (And.intro (fun w' hw => (by have h := ((hF.out w' hw).2); simp [h])) ?_); go_simp; refine hK _ ?_; clear hK K
                      iterate 3 (refine WQ_step (fun K hK => ?_); simp only [SQ_eq]; go_simp; refine hK _ ?_; clear hK K)
                      refine WQ_nil (fun w' hw => ?_)
                      have fin8 := finH.out w' hw.b
                      clear finH hF hSq hC0 hconst hw
                      go_wp2_with fail
                      go_meet
                      exact ⟨true, rfl, fin8⟩
              case rest =>
                obtain ⟨dn, rfl, hI10⟩ := hcut
                clear hI9 cu
                go_wp2_with fail
                go_loopw [17] (fun i wr => ∃ q4 : Nat, q4 ≤ 6 ∧ i = .int .i64 q4 ∧ Hid (LtX w N (N + 1) A (A + 1) D S P k dn (decide (op ≠ 2)) (4 * (j2 + 1)) wr ∧ S.c = 1)) (fun i _ => 6 - (intOf i).toNat)
                case atStart => exact ⟨0, by omega, rfl, hI10.out⟩
                case round =>
                  clear hI10
                  obtain ⟨q4, hq4, rfl, hI11⟩ := hrel
                  by_cases hlt4 : q4 < 6
                  · have hltI4 : (q4 : Int) < 6 := by omega
                    have hq40 : (0 : Int) ≤ (q4 : Int) := by omega
                    have hkI : (k : Int) < 6 := by omega
                    have hk0 : (0 : Int) ≤ (k : Int) := by omega
                    obtain ⟨⟨th', fd', P', d', hW, hArr, hHS⟩, hc1⟩ := hI11.out
                    obtain ⟨nq, hnq⟩ : ∃ x, nh q4 = x := ⟨_, rfl⟩
                    obtain ⟨tq, htq⟩ : ∃ x, th' q4 = x := ⟨_, rfl⟩
                    obtain ⟨s0, hs0⟩ : ∃ x, P.st (nh q4) = x := ⟨_, rfl⟩
                    obtain ⟨sp, hsp⟩ : ∃ x, P'.st (nh q4) = x := ⟨_, rfl⟩
                    obtain ⟨uv, huv⟩ : ∃ x, uI k = x := ⟨_, rfl⟩
                    have hH := hHS.s q4 hlt4
                    rw [hs0, hsp] at hH
                    have hsz : (nh q4).size ≤ 1000 := by have := nh_size q4; omega
                    have hF : Hid (∀ W, QB wr W → W.cell? ⟨N, q4, none⟩ = some (.string nq) ∧ W.cell? ⟨A, q4, none⟩ = some (.bool tq) ∧ W.cell? ⟨D, q4, none⟩ = some (.int .i64 s0) ∧ W.cell? ⟨b, o + j2, none⟩ = some (.int .u8 (u : Nat)) ∧ W.cell? ⟨N + 1, k, none⟩ = some (.int .i64 uv)) := fun W hb => by
                      have L := hW.l.below hb.b
                      refine ⟨by rw [← hnq]; exact (L.n q4 hlt4).1, by rw [← htq]; exact (L.a q4 hlt4).1, by rw [← hs0]; exact ((hArr.mv (E := fun _ => False) (Mv.below hb.b) (fun h => h)) q4 hlt4).1, hcu.out W L.f.b, by rw [← huv]; exact (L.u k hk6).1⟩
                    have hEx : Hid (∀ W, QB wr W → Calls Tryd.prog 22 #[.pointer (some ⟨S.bt, 0, none⟩), .string nq] W fun e V => e = .returned (.bool tq) ∧ QB wr V) := fun W hb => by
                      have := exists_any _ (nh q4) W (hW.l.below hb.b).f.g hsz
                      rw [show inS (nh q4) ({ S with p := P', c := S.c + d' } : St).p.ks = tq by rw [← htq]; exact hW.h.inn hlt4, hnq] at this
                      exact this.mono (fun e V h => ⟨h.1, ⟨hb.b.trans (h.2.mono hb.b.size)⟩⟩)
                    have hSt0 : ∀ W, QB wr W → Calls Tryd.prog 24 #[.pointer (some ⟨S.bt, 0, none⟩), .string nq] W fun e V => e = .returned (.int .i64 sp) ∧ QB wr V := fun W hb => by
                      have := stamp_any _ (nh q4) W (hW.l.below hb.b).f.g hsz
                      rw [show ({ S with p := P', c := S.c + d' } : St).p.st (nh q4) = sp from hsp, hnq] at this
                      exact this.mono (fun e V h => ⟨h.1, by rw [h.2]; exact hb⟩)
                    have hnext : Hid (∀ W, QB wr W → Hid (LtX w N (N + 1) A (A + 1) D S P k dn (decide (op ≠ 2)) (4 * (j2 + 1)) W ∧ S.c = 1)) := fun W hb => ⟨⟨th', fd', P', d', ⟨hW.l.below hb.b, hW.h, hW.d, hW.x⟩, hArr.mv (E := fun _ => False) (Mv.below hb.b) (fun h => h), hHS⟩, hc1⟩
                    have hC0 : Hid (QB wr { wr with drawn := wr.drawn + 1 }) := ⟨(Below.refl _ wr).drew⟩
                    have huvH := hidP huv
                    clear hW hArr hHS hc1 hI11 hnq htq hs0 hsp hsz huv
                    go_upto_region 45 with fail
                    go_cut [207] from 161 to 206 (fun c wx => c = .bool false ∧ QB wr wx)
                    case first =>
                      have hconst : ∀ p : Prop, (∀ w', QB wr w' → p) = p := fun p => propext ⟨fun h => h _ hC0.out, fun h _ _ => h⟩
                      have hSt := hidP hSt0
                      clear hSt0 hnext
                      refine region_WQ (C := QB wr) (by kernel_rfl) (by kernel_rfl) hC0.out ?_
                      iterate 3 (refine WQ_step (fun K hK => ?_); simp only [SQ_eq]; go_simp; refine hK _ ?_; clear hK K)
                      refine WQ_step (fun K hK => ?_); simp only [SQ_eq]; go_simp; refine Exists.intro (.string nq) (And.intro (fun w' hw => (by have h := ((hF.out w' hw).1); simp [h])) ?_); go_simp; refine hK _ ?_; clear hK K
                      refine WQ_step (fun K hK => ?_); simp only [SQ_eq]; go_simp; refine Exists.intro (.bool tq) (And.intro (fun w' hw => hEx.out w' hw) ?_); go_simp; refine hK _ ?_; clear hK K
                      iterate 2 (refine WQ_step (fun K hK => ?_); simp only [SQ_eq]; go_simp; refine hK _ ?_; clear hK K)
                      refine WQ_step (fun K hK => ?_); simp only [SQ_eq]; go_simp; refine Exists.intro (.bool tq) (And.intro (fun w' hw => (by have h := ((hF.out w' hw).2.1); simp [h])) ?_); go_simp; refine hK _ ?_; clear hK K
                      iterate 5 (refine WQ_step (fun K hK => ?_); simp only [SQ_eq]; go_simp; refine hK _ ?_; clear hK K)
                      refine WQ_step (fun K hK => ?_); simp only [SQ_eq]; go_simp; refine Exists.intro (.string nq) (And.intro (fun w' hw => (by have h := ((hF.out w' hw).1); simp [h])) ?_); go_simp; refine hK _ ?_; clear hK K
                      refine WQ_step (fun K hK => ?_); simp only [SQ_eq]; go_simp; refine Exists.intro (.int .i64 sp) (And.intro (fun w' hw => hSt.out w' hw) ?_); go_simp; refine hK _ ?_; clear hK K
                      iterate 2 (refine WQ_step (fun K hK => ?_); simp only [SQ_eq]; go_simp; refine hK _ ?_; clear hK K)
                      refine WQ_step (fun K hK => ?_); simp only [SQ_eq]; go_simp; refine Exists.intro (.int .i64 s0) (And.intro (fun w' hw => (by have h := ((hF.out w' hw).2.2.1); simp [h])) ?_); go_simp; refine hK _ ?_; clear hK K
                      iterate 3 (refine WQ_step (fun K hK => ?_); simp only [SQ_eq]; go_simp; refine hK _ ?_; clear hK K)
                      cases dn with
                      | false =>
                       as_aux_lemma =>
                        have h1 : (sp != s0) = false := by have := hH.2 rfl; simp [this]
                        clear hH
                        iterate 22 (refine WQ_step (fun K hK => ?_); simp only [SQ_eq]; go_simp; refine hK _ ?_; clear hK K)
                        refine WQ_nil (fun w' hw => ?_)
                        go_wp2_with fail
                        go_meet
                        exact ⟨by first | rfl | (rw [h1]; rfl) | (simp; done), hw⟩
                      | true =>
                        by_cases hjk : q4 = k
                        · as_aux_lemma =>
                          have h1 : (sp != s0) = true := by
                            have hne : ¬ sp = s0 := fun e => by have := hH.1 e; unfold chg at this; simp [hjk] at this
                            simpa using hne
                          have hjb : ((q4 : Int) == (k : Int)) = true := by simp [hjk]
                          clear hH hjk
                          iterate 22 (refine WQ_step (fun K hK => ?_); simp only [SQ_eq]; go_simp; refine hK _ ?_; clear hK K)
                          refine WQ_nil (fun w' hw => ?_)
                          go_wp2_with fail
                          go_meet
                          exact ⟨by first | rfl | (rw [h1]; rfl) | (simp; done), hw⟩
                        · have hjb : ((q4 : Int) == (k : Int)) = false := by simp; omega
                          by_cases hop2 : op = 2
                          · as_aux_lemma =>
                            subst hop2
                            have h1 : (sp != s0) = false := by have := hH.2 (by unfold chg; simp [hjk]); simp [this]
                            clear hH hjk
                            iterate 7 (refine WQ_step (fun K hK => ?_); simp only [SQ_eq]; go_simp; refine hK _ ?_; clear hK K)
                            refine WQ_step (fun K hK => ?_); simp only [SQ_eq]; go_simp; refine Exists.intro (.int .u8 (u : Nat)) (And.intro (fun w' hw => (by have h := ((hF.out w' hw).2.2.2.1); simp [h])) ?_); go_simp; refine hK _ ?_; clear hK K
                            iterate 14 (refine WQ_step (fun K hK => ?_); simp only [SQ_eq]; go_simp; refine hK _ ?_; clear hK K)
                            refine WQ_nil (fun w' hw => ?_)
                            go_wp2_with fail
                            go_meet
                            exact ⟨by first | rfl | (rw [h1]; rfl) | (simp; done), hw⟩
                          · have hopB : ((op : Int) != 2) = true := by
                              have : ¬ (op : Int) = 2 := by omega
                              simpa using this
                            have hopI : ¬ (op : Int) = 2 := by omega
                            by_cases hu4 : uv = (q4 : Int)
                            · as_aux_lemma =>
                              have h1 : (sp != s0) = true := by
                                have hne : ¬ sp = s0 := fun e => by have := hH.1 e; unfold chg at this; rw [huvH.out] at this; simp [hu4, hop2] at this
                                simpa using hne
                              have hub : ((q4 : Int) == uv) = true := by simp [hu4]
                              clear hH hjk hop2 hu4
                              iterate 7 (refine WQ_step (fun K hK => ?_); simp only [SQ_eq]; go_simp; refine hK _ ?_; clear hK K)
                              refine WQ_step (fun K hK => ?_); simp only [SQ_eq]; go_simp; refine Exists.intro (.int .u8 (u : Nat)) (And.intro (fun w' hw => (by have h := ((hF.out w' hw).2.2.2.1); simp [h])) ?_); go_simp; refine hK _ ?_; clear hK K
                              iterate 7 (refine WQ_step (fun K hK => ?_); simp only [SQ_eq]; go_simp; refine hK _ ?_; clear hK K)
                              refine WQ_step (fun K hK => ?_); simp only [SQ_eq]; go_simp; refine Exists.intro (.int .i64 uv) (And.intro (fun w' hw => (by have h := ((hF.out w' hw).2.2.2.2); simp [h])) ?_); go_simp; refine hK _ ?_; clear hK K
                              iterate 6 (refine WQ_step (fun K hK => ?_); simp only [SQ_eq]; go_simp; refine hK _ ?_; clear hK K)
                              refine WQ_nil (fun w' hw => ?_)
                              go_wp2_with fail
                              go_meet
                              exact ⟨by first | rfl | (rw [h1]; rfl) | (simp; done), hw⟩
                            · as_aux_lemma =>
                              have h1 : (sp != s0) = false := by have := hH.2 (by unfold chg; rw [huvH.out]; simp [hjk, hu4]); simp [this]
                              have hub : ((q4 : Int) == uv) = false := by simp; omega
                              clear hH hjk hop2 hu4
                              iterate 7 (refine WQ_step (fun K hK => ?_); simp only [SQ_eq]; go_simp; refine hK _ ?_; clear hK K)
                              refine WQ_step (fun K hK => ?_); simp only [SQ_eq]; go_simp; refine Exists.intro (.int .u8 (u : Nat)) (And.intro (fun w' hw => (by have h := ((hF.out w' hw).2.2.2.1); simp [h])) ?_); go_simp; refine hK _ ?_; clear hK K
                              iterate 7 (refine WQ_step (fun K hK => ?_); simp only [SQ_eq]; go_simp; refine hK _ ?_; clear hK K)
                              refine WQ_step (fun K hK => ?_); simp only [SQ_eq]; go_simp; refine Exists.intro (.int .i64 uv) (And.intro (fun w' hw => (by have h := ((hF.out w' hw).2.2.2.2); simp [h])) ?_); go_simp; refine hK _ ?_; clear hK K
                              iterate 6 (refine WQ_step (fun K hK => ?_); simp only [SQ_eq]; go_simp; refine hK _ ?_; clear hK K)
                              refine WQ_nil (fun w' hw => ?_)
                              go_wp2_with fail
                              go_meet
                              exact ⟨by first | rfl | (rw [h1]; rfl) | (simp; done), hw⟩
                    case rest =>
                     as_aux_lemma =>
                      obtain ⟨rfl, hq⟩ := hcut
                      have fin := hnext.out _ hq
                      clear hnext hq hF hEx hSt0 hH hC0
                      go_wp2_with fail
                      go_roundw
                      case rel => exact ⟨q4 + 1, by omega, by push_cast; rfl, fin.out⟩
                      case measure => simp [intOf]; omega
                  · have hgeI4 : ¬ (q4 : Int) < 6 := by omega
                    have fin : Hid (LtI w N (N + 1) A (A + 1) S (4 * (j2 + 1)) wr ∧ S.c = 1) := by
                      obtain ⟨⟨th', fd', P', d', hW, _, _⟩, hc1⟩ := hI11.out
                      exact ⟨⟨th', fd', P', d', hW.l, hW.h, hW.d⟩, hc1⟩
                    clear hI11
                    go_wp2_with fail
                    go_roundw
                    case rel => exact ⟨j2 + 1, by omega, by push_cast; rfl, fin.out⟩
                    case measure => simp [intOf]; omega
      · have hge5 : ¬ (j2 : Int) < (n : Int) := by omega
        have fin : Hid (Below w.heap.size w wr) := by obtain ⟨th, fd, P, d, h1, _⟩ := hI5.out.1; exact h1.f.b
        clear hI5
        go_wp2_with fail
        go_ret
        exact ⟨rfl, fin.out⟩
end Go.Proofs.YtcpabmceioijpaaDoor
