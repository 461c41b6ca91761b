/- GroupOne: the walk. -/
import Derived.Test.YtjjffcgklhclgaaLO2
import Derived.Deep.RegionHeld3
namespace Go.Proofs.Ytjjffcgklhclgaa
open Go.RowKit Go.Shelf Go.Lib
def selR (f : Nat → Nat) (k m : Nat) : List Int := (((List.range m).map fun i => i + 2).filter fun q => decide (f q = k + 1)).map fun (q : Nat) => (q : Int)
theorem selR_succ (f : Nat → Nat) (k m : Nat) : selR f k (m + 1) = selR f k m ++ (if f (m + 2) = k + 1 then [((m : Int) + 2)] else []) := by
  unfold selR
  rw [List.range_succ, List.map_append, List.filter_append, List.map_append]
  congr 1
  by_cases e : f (m + 2) = k + 1
  · simp [e]
  · simp [e]
theorem selR_8 (f : Nat → Nat) (k : Nat) : selR f k 8 = sel f k := rfl
theorem selR_len (f : Nat → Nat) (k m : Nat) : (selR f k m).length ≤ m := by
  unfold selR
  rw [List.length_map]
  exact Nat.le_trans (List.length_filter_le _ _) (by simp)
theorem infoZ : ∃ i, Try.prog.info? 3 = some i ∧ i.zero = some (.int .i64 0) ∧ i.size = 1 ∧ i.bytes = 8 := by
  have h : (Try.prog.info? 3).map (fun i => (i.zero, i.size, i.bytes)) = some (some (.int .i64 0), 1, 8) := by kernel_rfl
  cases e : Try.prog.info? 3 with
  | none => rw [e] at h; cases h
  | some i => rw [e] at h; simp at h; exact ⟨i, rfl, h⟩
set_option maxRecDepth 100000 in
set_option maxHeartbeats 400000 in
theorem one_walk (a : Option Addr) (b o n cap : Nat) (us : List Nat) (w : World) (ha : 0 < n → a = some ⟨b, o, none⟩) (hl : us.length = n) (hel : ∀ (j u : Nat), us[j]? = some u → w.cell? ⟨b, o + j, none⟩ = some (.int .u8 (u : Nat))) (hub : ∀ u ∈ us, u ≤ 255) (hml : n ≤ maxLen) :
    Calls Try.prog 4 #[.slice a n cap] w fun e w' => e = .returned (.bool true) ∧ Below w.heap.size w w' := by
  have hK := hidP (known_any w)
  have haH := hidP ha
  have hlH := hidP hl
  have helH := hidP hel
  have hubH := hidP hub
  have hnm : (n : Int) ≤ 9223372036854775807 := by unfold maxLen at hml; omega
  clear ha hl hel hub hml
  by_cases h8 : 150 < n
  · have h8I : (150 : Int) < (n : Int) := by omega
    go_enter Try.func4, Try.ntmps4
    go_wp2_with fail
    refine hK.out.mono ?_
    rintro e V ⟨rfl, hbV⟩
    go_wp2_with fail
    go_ret
    exact ⟨rfl, hbV⟩
  · have h8I : decide ((150 : Int) < (n : Int)) = false := by simp; omega
    have h8J : (n : Int) ≤ 150 := by omega
    go_enter Try.func4, Try.ntmps4
    go_wp2_with fail
    refine hK.out.mono ?_
    rintro e V ⟨rfl, hbV⟩
    obtain ⟨V1, hV1⟩ : ∃ V1, V.alloc (.cells #[.string ⟨#[97]⟩, .string ⟨#[98]⟩, .string ⟨#[99]⟩, .string ⟨#[100]⟩] 53) = V1 := ⟨_, rfl⟩
    have hbV1 : Below w.heap.size w V1 := by rw [← hV1]; exact hbV.alloc hbV.size _
    have hA : Nm4 V1 V.heap.size := by rw [← hV1]; exact fun k hk => cell_at rfl (by match k, hk with | 0, _ => rfl | 1, _ => rfl | 2, _ => rfl | 3, _ => rfl)
    have hN := hidP (new_any V1)
    have hVw := hbV.size
    have hAH := hidP (And.intro hA (And.intro hVw hbV1))
    clear hbV hbV1 hA hVw
    go_wp2_with (rw [hV1])
    refine hN.out.mono ?_
    rintro e W1 ⟨rfl, hg1, hb1⟩
    have F1 := Fr.new hAH.out.2.2 hg1 hb1
    obtain ⟨bt, hbt⟩ : ∃ bt, V1.heap.size + 3 = bt := ⟨_, rfl⟩
    obtain ⟨A, hAe⟩ : ∃ A, V.heap.size = A := ⟨_, rfl⟩
    have L1 : Hid (La w bt A (st0 V1.heap.size) W1) := by
      subst hAe
      exact ⟨F1, hbt, hAH.out.1.blk (hb1.block _ hAH.out.1.lt), fun q => by
        have := hAH.out.1.lt
        rcases q with q | q
        · simp only [Bs, st0, List.map_nil, List.mem_cons, List.not_mem_nil, or_false] at q
          omega
        · (cases q), hAH.out.2.1⟩
    rw [hbt, hAe]
    clear hN hg1 hb1 hAH F1 hbt hAe hV1 hK
    go_wp2_with fail
    go_loopw [5] (fun i wr => ∃ (j : Nat) (S : St), j ≤ 4 ∧ i = .int .i64 j ∧ Hid (La w bt A S wr ∧ S.c ≤ j ∧ S.ns = [] ∧ Q 4 (g1 j) S.l)) (fun i _ => 4 - (intOf i).toNat)
    case atStart => exact ⟨0, _, by omega, rfl, L1.out, Nat.le_refl _, rfl, Q.o0⟩
    case round =>
      clear L1
      obtain ⟨j, S, hj, rfl, hI⟩ := hrel
      by_cases hlt : j < 4
      · have hltI : (j : Int) < 4 := by omega
        have cA := hI.out.1.a j hlt
        have hM := make_any S (nm j) wr hI.out.1.f.g (by rw [nm_size]; omega) (by have := hI.out.2.1; omega)
        rw [hI.out.1.bt, (hI.out.2.2.2.o1 hlt).1] at hM
        have hMH := hidP hM
        clear hM
        go_wp2_with fail
        refine hMH.out.mono ?_
        rintro e W3 ⟨rfl, S3, b3, G3, l3, n3⟩
        rw [if_pos trivial] at l3
        have L3 : Hid (La w bt A S3 W3 ∧ S3.c ≤ j + 1 ∧ S3.ns = [] ∧ Q 4 (g1 (j + 1)) S3.l) := ⟨hI.out.1.step G3, by have := G3.c; have := hI.out.2.1; omega, n3.trans hI.out.2.2.1, by rw [l3]; exact (hI.out.2.2.2.o1 hlt).2 b3⟩
        clear hMH G3 l3 n3 hI cA
        go_wp2_with fail
        exact ⟨⟨j + 1, S3, by omega, by go_num, L3⟩, by simp [intOf]; omega⟩
      · have hge : ¬ (j : Int) < 4 := by omega
        have hI' : Hid (La w bt A S wr ∧ S.c ≤ 4 ∧ S.ns = [] ∧ Q 4 (g1 4) S.l) := by
          have := hI.out
          rw [show j = 4 by omega] at this
          exact this
        obtain ⟨W2, hW2⟩ : ∃ W2, wr.alloc (.cells #[.int .i64 0, .int .i64 0, .int .i64 0, .int .i64 0, .int .i64 0, .int .i64 0, .int .i64 0, .int .i64 0, .int .i64 0, .int .i64 0] 54) = W2 := ⟨_, rfl⟩
        obtain ⟨O, hO⟩ : ∃ O, wr.heap.size = O := ⟨_, rfl⟩
        have L2 : Hid (Lo w bt A O (fun _ => 0) S W2 ∧ Po (fun _ => 0) S.l S.ns ∧ S.c ≤ 4) := by
          have hb2 : Below wr.heap.size wr W2 := by rw [← hW2]; exact (Below.refl _ _).alloc (Nat.le_refl _) _
          refine ⟨⟨hI'.out.1.below hb2, ?_, ?_, ?_, ?_⟩, by rw [hI'.out.2.2.1]; exact hI'.out.2.2.2.o4, hI'.out.2.1⟩
          · rw [← hW2]
            exact fun k hk => ⟨cell_at hO (by match k, hk with | 0, _ => rfl | 1, _ => rfl | 2, _ => rfl | 3, _ => rfl | 4, _ => rfl | 5, _ => rfl | 6, _ => rfl | 7, _ => rfl | 8, _ => rfl | 9, _ => rfl), froz_new hO⟩
          · exact fun q => by have := hI'.out.1.f.g.lt q; omega
          · have := hI'.out.1.f.b.size; omega
          · have := hI'.out.1.a.lt; omega
        clear hI hI' hlt hj
        go_wp2_with fail
        clear hW2 hO
        go_loopw [7] (fun i wr => ∃ (j : Nat) (S : St) (f : Nat → Nat), j ≤ n ∧ i = .int .i64 j ∧ Hid (Lo w bt A O f S wr ∧ Po f S.l S.ns ∧ S.c ≤ 4 + 3 * j ∧ ∀ q, f q ≤ 4)) (fun i _ => n - (intOf i).toNat)
        case atStart => exact ⟨0, S, _, by omega, rfl, L2.out.1, L2.out.2.1, by have := L2.out.2.2; omega, fun q => by omega⟩
        case round =>
          clear L2
          obtain ⟨j2, S5, f, hj5, rfl, hI5⟩ := hrel
          by_cases hlt5 : j2 < n
          · have hltI5 : (j2 : Int) < (n : Int) := by omega
            obtain rfl := haH.out (by omega)
            obtain ⟨u, hu⟩ : ∃ u, us[j2]? = some u := ⟨us[j2]'(by have := hlH.out; omega), List.getElem?_eq_getElem _⟩
            have cu := (Mv.below (E := fun _ => False) hI5.out.1.l.f.b).cell (fun h => h) (helH.out j2 u hu)
            have hu255 := hubH.out u (List.mem_of_getElem? hu)
            obtain ⟨p0, hp0⟩ : ∃ p0, u % 8 = p0 := ⟨_, rfl⟩
            have hmod : ((u : Nat) : Int).tmod 8 = (p0 : Int) := by rw [Int.tmod_eq_emod_of_nonneg (by omega)]; omega
            obtain ⟨x8, hx8⟩ : ∃ x8, u / 8 = x8 := ⟨_, rfl⟩
            have hw8 : IntKind.u8.wrap ((u : Int) / 8) = (x8 : Int) := by rw [IntKind.wrap_u8]; omega
            obtain ⟨nn, hnn⟩ : ∃ nn, x8 % 4 = nn := ⟨_, rfl⟩
            have ht8 : (x8 : Int).tmod 4 = (nn : Int) := by rw [Int.tmod_eq_emod_of_nonneg (by omega)]; omega
            obtain ⟨x32, hx32⟩ : ∃ x32, u / 32 = x32 := ⟨_, rfl⟩
            have hw32 : IntKind.u8.wrap ((u : Int) / 32) = (x32 : Int) := by rw [IntKind.wrap_u8]; omega
            obtain ⟨cc, hcc⟩ : ∃ cc, x32 % 4 = cc := ⟨_, rfl⟩
            have ht32 : (x32 : Int).tmod 4 = (cc : Int) := by rw [Int.tmod_eq_emod_of_nonneg (by omega)]; omega
            have hn4 : nn < 4 := by omega
            have hp8 : p0 < 8 := by omega
            obtain ⟨p, hpe⟩ : ∃ p, p0 + 2 = p := ⟨_, rfl⟩
            have hpI : (p0 : Int) + 2 = (p : Int) := by omega
            have hpb : 2 ≤ p ∧ p < 10 := by omega
            clear hu hp0 hx8 hnn hx32 hcc hpe
            go_wp2_with fail
            go_quiet (fail)
            obtain ⟨W6, hW6⟩ : ∃ W6, wr.drewN nq = W6 := ⟨_, rfl⟩
            rw [hW6]
            have hb6 : Below wr.heap.size wr W6 := by rw [← hW6]; exact below_drewN (Below.refl _ _) _
            have cu6 := (Mv.below (E := fun _ => False) hb6).cell (fun h => h) cu
            have L6 : Hid (Lo w bt A O f S5 W6 ∧ Po f S5.l S5.ns ∧ S5.c ≤ 4 + 3 * j2 ∧ ∀ q, f q ≤ 4) := ⟨hI5.out.1.below hb6, hI5.out.2⟩
            clear hI5 hb6 hW6 cu hmod hw8 ht8
            by_cases hc0 : cc = 0
            · subst hc0
              have hGo : Hid (∀ W, Below W6.heap.size W6 W → Calls Try.prog 14 #[.pointer (some ⟨bt, 0, none⟩), .int .i64 (p : Nat)] W fun e W' => e = .returned (.bool (decide (0 < f p))) ∧ ∃ S', Lo w bt A O f S' W' ∧ Po (upd f p 0) S'.l S'.ns ∧ S'.c ≤ S5.c + 1) := fun W hb => gone_o (L6.out.1.below hb) L6.out.2.1 hpb.1 hpb.2 (L6.out.2.2.2 p) (by have := L6.out.2.2.1; omega)
              have cO := (L6.out.1.o p hpb.2).1
              have hp10 : (p : Int) < 10 := by omega
              have hp0I : (0 : Int) ≤ (p : Int) := by omega
              obtain ⟨fp, hfp⟩ : ∃ fp, f p = fp := ⟨_, rfl⟩
              rw [hfp] at cO hGo
              have hfpI : decide ((0 : Int) < (fp : Int)) = decide (0 < fp) := by
                rw [decide_eq_decide]; omega
              have hfpH := hidP hfp
              clear hfp
              go_wp2_with fail
              go_region_held3 (fun w' => w'.cell? ⟨O, p, none⟩ = some (.int .i64 (fp : Nat)))
                (first
                  | assumption
                  | (simp only [World.cell?_drew]; assumption)
                  | (have := (L7.o p hpb.2).1; rw [hfpH.out] at this; exact this))
                (first
                  | (go_at_call 14; refine (hGo.out _ (Below.refl _ _).drew).mono ?_; rintro e W7 ⟨rfl, S7, L7, P7, C7⟩))
              have L8 : Hid (Lo w bt A O f S7 W7 ∧ Po (upd f p 0) S7.l S7.ns ∧ S7.c ≤ 4 + 3 * (j2 + 1) ∧ ∀ q, (upd f p 0) q ≤ 4) := ⟨L7, P7, by have := L6.out.2.2.1; omega, fun q => by unfold upd; split; omega; exact L6.out.2.2.2 q⟩
              have c7 := (L7.o p hpb.2)
              have d71 := c7.1
              have d72 := c7.2
              rw [hfpH.out] at d71
              clear hGo cO L7 P7 C7 L6 hfpH c7 cu6 ht32 hw32
              go_wp2_with fail
              obtain ⟨W8, hW8⟩ : ∃ W8, W7.setCell ⟨O, p, none⟩ (.int .i64 0) = W8 := ⟨_, rfl⟩
              rw [hW8]
              obtain ⟨f2, hf2⟩ : ∃ f2, upd f p 0 = f2 := ⟨_, rfl⟩
              have L9h : Hid (Lo w bt A O f2 S7 W8 ∧ Po f2 S7.l S7.ns ∧ S7.c ≤ 4 + 3 * (j2 + 1) ∧ ∀ q, f2 q ≤ 4) := by
                rw [← hW8, ← hf2]
                exact ⟨L8.out.1.set hpb.2 0, L8.out.2⟩
              clear L8 hW8 hf2 d71 d72
              go_loopw [10] (fun i wr2 => ∃ kk : Nat, kk ≤ 4 ∧ i = .int .i64 kk ∧ Hid (Lo w bt A O (f2) S7 wr2)) (fun i _ => 4 - (intOf i).toNat)
              case atStart => exact ⟨0, by omega, rfl, L9h.out.1⟩
              case round =>
                obtain ⟨V8, hV8⟩ : ∃ V8, V8 = wr := ⟨_, rfl⟩
                subst hV8
                obtain ⟨kk, hkk, rfl, hI8⟩ := hrel
                by_cases hlt8 : kk < 4
                · have hltI8 : (kk : Int) < 4 := by omega
                  go_wp2_with fail
                  obtain ⟨B, hB⟩ : ∃ B, V8.heap.size = B := ⟨_, rfl⟩
                  have hBH := hidP hB
                  clear hB
                  go_loopw [11, 12] (fun v i wr2 => ∃ m : Nat, m ≤ 8 ∧ i = .int .i64 ((m : Int) + 2) ∧ Hid (wr2.ownsRow B 3 1 v (selR (f2) kk m).length ((selR (f2) kk m).map encZ) ∧ Below B V8 wr2)) (fun _ i _ => 10 - (intOf i).toNat)
                  case atStart => exact ⟨0, by omega, rfl, World.ownsRow_nil _ _ _ _, Below.refl _ _⟩
                  case round =>
                    obtain ⟨m, hm, rfl, hI9⟩ := hrel
                    have L9 : Hid (Lo w bt A O (f2) S7 wr) := hI8.out.below (by have := hI9.out.2; rw [← hBH.out] at this; exact this)
                    by_cases hlt9 : m < 8
                    · have hltI9 : (m : Int) + 2 < 10 := by omega
                      have cO := (L9.out.o (m + 2) (by omega)).1
                      have hsu := selR_succ (f2) kk m
                      obtain ⟨fv, hfv⟩ : ∃ fv, (f2) (m + 2) = fv := ⟨_, rfl⟩
                      rw [hfv] at cO hsu
                      clear hfv
                      have hmq : ((m + 2 : Nat) : Int) = (m : Int) + 2 := by omega
                      by_cases hfe : fv = kk + 1
                      · have hfI : (fv : Int) = (kk : Int) + 1 := by omega
                        rw [if_pos hfe] at hsu
                        obtain ⟨i0, hi, hz0, hz1, hz2⟩ := infoZ
                        obtain ⟨W9, hW9⟩ : ∃ W9, wr.alloc (.cells #[.int .i64 ((m : Int) + 2)] 3) = W9 := ⟨_, rfl⟩
                        have hlen := selR_len (f2) kk m
                        obtain ⟨v', w9, hrun, hown, hgr, _, hat⟩ := run_append_own_at (P := Try.prog) W9 B 43 43 3 i0 (.int .i64 0) 1 8 Try.underlying43 hi hz0 hz1 hz2 rfl (by decide) u11 _ _ (by rw [← hW9]; exact hI9.out.1.alloc _) ⟨wr.heap.size, 0, none⟩ 1 1 [.int .i64 ((m : Int) + 2)] rfl (by rw [← hW9]; exact row_news1 _ _ _) (by simp [Value.oneCell']) (by unfold maxLen; omega) (by omega) (by have := hI9.out.2.size; rw [← hW9]; simp; rw [hBH.out] at this; omega)
                        have fin : Hid (w9.ownsRow B 3 1 v' (selR (f2) kk (m + 1)).length ((selR (f2) kk (m + 1)).map encZ) ∧ Below B V8 w9) := by
                          refine ⟨?_, ?_⟩
                          · rw [hsu]
                            simpa using hown
                          · have h1 : Below B V8 W9 := by rw [← hW9]; exact hI9.out.2.alloc (by have := hI9.out.2.size; rw [hBH.out] at this; omega) _
                            refine h1.trans ⟨hgr.os, hgr.tape, hgr.output, hgr.size, fun x hx => hgr.block x (Nat.lt_of_lt_of_le hx (by have := h1.size; rw [hBH.out] at this; omega)) (fun e => ?_)⟩
                            rcases hI9.out.1.2 with ⟨e2, _⟩ | ⟨g, cp, cur, e2, hg, _⟩
                            · rw [e2] at e; cases e
                            · rw [e2] at e
                              have e3 : some x = some g := e
                              cases e3
                              omega
                        obtain ⟨p', n', c', hv'⟩ : ∃ p n c, v' = .slice p n c := by
                          rcases hown.2 with ⟨e, _⟩ | ⟨g, cp, cur, e, _⟩
                          · exact ⟨_, _, _, e⟩
                          · exact ⟨_, _, _, e⟩
                        subst hv'
                        clear hsu hi hz0 hz1 hz2 hlen hown hgr hat hI9 L9 hfe
                        go_wp2_with (first | rw [hW9] | (at_builtin; refine wpList_append_run rfl _ _ 43 rfl _ _ _ _ rfl rfl hrun ?_))
                        exact ⟨⟨m + 1, by omega, by go_num, fin⟩, by simp [intOf]; omega⟩
                      · have hfI : decide ((fv : Int) = (kk : Int) + 1) = false := by simp; omega
                        rw [if_neg hfe, List.append_nil] at hsu
                        have fin : Hid (wr.ownsRow B 3 1 u11 (selR (f2) kk (m + 1)).length ((selR (f2) kk (m + 1)).map encZ) ∧ Below B V8 wr) := by
                          rw [show Hid = fun p => p from rfl, hsu]; exact hI9.out
                        clear hsu hI9 L9
                        go_wp2_with fail
                        exact ⟨⟨m + 1, by omega, by go_num, fin⟩, by simp [intOf]; omega⟩
                    · have hgeI9 : ¬ ((m : Int) + 2 < 10) := by omega
                      have hrow : Hid (IR wr u11 (sel (f2) kk)) := by
                        have := hI9.out.1
                        rw [show m = 8 by omega, selR_8] at this
                        exact IR.own this
                      have hMe := members_o L9.out L9h.out.2.1 hlt8 (by have := L9h.out.2.2.1; omega)
                      have cA := L9.out.l.a kk hlt8
                      have hMeH := hidP hMe
                      clear hMe hI9
                      go_wp2_with fail
                      refine hMeH.out.mono ?_
                      rintro e W10 ⟨vm, rfl, hIm, hb10⟩
                      have hIn := ints_same vm u11 (sel (f2) kk) W10 hIm (hrow.out.below hb10) (by have := sel_len (f2) kk; omega)
                      have hInH := hidP hIn
                      have L10 := hidP (L9.out.below hb10)
                      clear hIn hIm hb10 hMeH hrow cA L9
                      go_wp2_with fail
                      refine hInH.out.mono ?_
                      rintro e W11 ⟨rfl, hb11⟩
                      have L11 := hidP (L10.out.below hb11)
                      clear hInH hb11 L10
                      go_wp2_with fail
                      exact ⟨⟨kk + 1, by omega, by go_num, L11⟩, by simp [intOf]; omega⟩
                · have hgeI8 : ¬ (kk : Int) < 4 := by omega
                  have fin : Hid (Lo w bt A O (f2) S7 V8 ∧ Po (f2) S7.l S7.ns ∧ S7.c ≤ 4 + 3 * (j2 + 1) ∧ ∀ q, (f2) q ≤ 4) := ⟨hI8.out, L9h.out.2.1, L9h.out.2.2.1, L9h.out.2.2.2⟩
                  clear hI8
                  go_wp2_with fail
                  exact ⟨⟨j2 + 1, S7, _, by omega, by go_num, fin⟩, by simp [intOf]; omega⟩
            · have hc0I : decide ((cc : Int) = 0) = false := by simp; omega
              have hPu := put_o L6.out.1 L6.out.2.1 hpb.1 hpb.2 hn4 (by have := L6.out.2.2.1; omega)
              have cA := L6.out.1.l.a nn hn4
              have hn4I : (nn : Int) < 4 := by omega
              have hPuH := hidP hPu
              have hp10 : (p : Int) < 10 := by omega
              clear hPu
              go_wp2_with fail
              refine hPuH.out.mono ?_
              rintro e W7 ⟨rfl, S7, L7, P7, C7⟩
              have L8 : Hid (Lo w bt A O f S7 W7 ∧ Po (upd f p (nn + 1)) S7.l S7.ns ∧ S7.c ≤ 4 + 3 * (j2 + 1) ∧ ∀ q, (upd f p (nn + 1)) q ≤ 4) := ⟨L7, P7, by have := L6.out.2.2.1; omega, fun q => by unfold upd; split; omega; exact L6.out.2.2.2 q⟩
              have c7 := (L7.o p hpb.2)
              have d71 := c7.1
              have d72 := c7.2
              clear hPuH cA L7 P7 C7 L6 c7 cu6 ht32 hw32
              go_wp2_with fail
              obtain ⟨W8, hW8⟩ : ∃ W8, W7.setCell ⟨O, p, none⟩ (.int .i64 ((nn : Int) + 1)) = W8 := ⟨_, rfl⟩
              rw [hW8]
              obtain ⟨f2, hf2⟩ : ∃ f2, upd f p (nn + 1) = f2 := ⟨_, rfl⟩
              have L9h : Hid (Lo w bt A O f2 S7 W8 ∧ Po f2 S7.l S7.ns ∧ S7.c ≤ 4 + 3 * (j2 + 1) ∧ ∀ q, f2 q ≤ 4) := by
                rw [← hW8, ← hf2]
                exact ⟨L8.out.1.set hpb.2 (nn + 1), L8.out.2⟩
              clear L8 hW8 hf2 d71 d72
              go_loopw [10] (fun i wr2 => ∃ kk : Nat, kk ≤ 4 ∧ i = .int .i64 kk ∧ Hid (Lo w bt A O (f2) S7 wr2)) (fun i _ => 4 - (intOf i).toNat)
              case atStart => exact ⟨0, by omega, rfl, L9h.out.1⟩
              case round =>
                obtain ⟨V8, hV8⟩ : ∃ V8, V8 = wr := ⟨_, rfl⟩
                subst hV8
                obtain ⟨kk, hkk, rfl, hI8⟩ := hrel
                by_cases hlt8 : kk < 4
                · have hltI8 : (kk : Int) < 4 := by omega
                  go_wp2_with fail
                  obtain ⟨B, hB⟩ : ∃ B, V8.heap.size = B := ⟨_, rfl⟩
                  have hBH := hidP hB
                  clear hB
                  go_loopw [11, 12] (fun v i wr2 => ∃ m : Nat, m ≤ 8 ∧ i = .int .i64 ((m : Int) + 2) ∧ Hid (wr2.ownsRow B 3 1 v (selR (f2) kk m).length ((selR (f2) kk m).map encZ) ∧ Below B V8 wr2)) (fun _ i _ => 10 - (intOf i).toNat)
                  case atStart => exact ⟨0, by omega, rfl, World.ownsRow_nil _ _ _ _, Below.refl _ _⟩
                  case round =>
                    obtain ⟨m, hm, rfl, hI9⟩ := hrel
                    have L9 : Hid (Lo w bt A O (f2) S7 wr) := hI8.out.below (by have := hI9.out.2; rw [← hBH.out] at this; exact this)
                    by_cases hlt9 : m < 8
                    · have hltI9 : (m : Int) + 2 < 10 := by omega
                      have cO := (L9.out.o (m + 2) (by omega)).1
                      have hsu := selR_succ (f2) kk m
                      obtain ⟨fv, hfv⟩ : ∃ fv, (f2) (m + 2) = fv := ⟨_, rfl⟩
                      rw [hfv] at cO hsu
                      clear hfv
                      have hmq : ((m + 2 : Nat) : Int) = (m : Int) + 2 := by omega
                      by_cases hfe : fv = kk + 1
                      · have hfI : (fv : Int) = (kk : Int) + 1 := by omega
                        rw [if_pos hfe] at hsu
                        obtain ⟨i0, hi, hz0, hz1, hz2⟩ := infoZ
                        obtain ⟨W9, hW9⟩ : ∃ W9, wr.alloc (.cells #[.int .i64 ((m : Int) + 2)] 3) = W9 := ⟨_, rfl⟩
                        have hlen := selR_len (f2) kk m
                        obtain ⟨v', w9, hrun, hown, hgr, _, hat⟩ := run_append_own_at (P := Try.prog) W9 B 43 43 3 i0 (.int .i64 0) 1 8 Try.underlying43 hi hz0 hz1 hz2 rfl (by decide) u11 _ _ (by rw [← hW9]; exact hI9.out.1.alloc _) ⟨wr.heap.size, 0, none⟩ 1 1 [.int .i64 ((m : Int) + 2)] rfl (by rw [← hW9]; exact row_news1 _ _ _) (by simp [Value.oneCell']) (by unfold maxLen; omega) (by omega) (by have := hI9.out.2.size; rw [← hW9]; simp; rw [hBH.out] at this; omega)
                        have fin : Hid (w9.ownsRow B 3 1 v' (selR (f2) kk (m + 1)).length ((selR (f2) kk (m + 1)).map encZ) ∧ Below B V8 w9) := by
                          refine ⟨?_, ?_⟩
                          · rw [hsu]
                            simpa using hown
                          · have h1 : Below B V8 W9 := by rw [← hW9]; exact hI9.out.2.alloc (by have := hI9.out.2.size; rw [hBH.out] at this; omega) _
                            refine h1.trans ⟨hgr.os, hgr.tape, hgr.output, hgr.size, fun x hx => hgr.block x (Nat.lt_of_lt_of_le hx (by have := h1.size; rw [hBH.out] at this; omega)) (fun e => ?_)⟩
                            rcases hI9.out.1.2 with ⟨e2, _⟩ | ⟨g, cp, cur, e2, hg, _⟩
                            · rw [e2] at e; cases e
                            · rw [e2] at e
                              have e3 : some x = some g := e
                              cases e3
                              omega
                        obtain ⟨p', n', c', hv'⟩ : ∃ p n c, v' = .slice p n c := by
                          rcases hown.2 with ⟨e, _⟩ | ⟨g, cp, cur, e, _⟩
                          · exact ⟨_, _, _, e⟩
                          · exact ⟨_, _, _, e⟩
                        subst hv'
                        clear hsu hi hz0 hz1 hz2 hlen hown hgr hat hI9 L9 hfe
                        go_wp2_with (first | rw [hW9] | (at_builtin; refine wpList_append_run rfl _ _ 43 rfl _ _ _ _ rfl rfl hrun ?_))
                        exact ⟨⟨m + 1, by omega, by go_num, fin⟩, by simp [intOf]; omega⟩
                      · have hfI : decide ((fv : Int) = (kk : Int) + 1) = false := by simp; omega
                        rw [if_neg hfe, List.append_nil] at hsu
                        have fin : Hid (wr.ownsRow B 3 1 u11 (selR (f2) kk (m + 1)).length ((selR (f2) kk (m + 1)).map encZ) ∧ Below B V8 wr) := by
                          rw [show Hid = fun p => p from rfl, hsu]; exact hI9.out
                        clear hsu hI9 L9
                        go_wp2_with fail
                        exact ⟨⟨m + 1, by omega, by go_num, fin⟩, by simp [intOf]; omega⟩
                    · have hgeI9 : ¬ ((m : Int) + 2 < 10) := by omega
                      have hrow : Hid (IR wr u11 (sel (f2) kk)) := by
                        have := hI9.out.1
                        rw [show m = 8 by omega, selR_8] at this
                        exact IR.own this
                      have hMe := members_o L9.out L9h.out.2.1 hlt8 (by have := L9h.out.2.2.1; omega)
                      have cA := L9.out.l.a kk hlt8
                      have hMeH := hidP hMe
                      clear hMe hI9
                      go_wp2_with fail
                      refine hMeH.out.mono ?_
                      rintro e W10 ⟨vm, rfl, hIm, hb10⟩
                      have hIn := ints_same vm u11 (sel (f2) kk) W10 hIm (hrow.out.below hb10) (by have := sel_len (f2) kk; omega)
                      have hInH := hidP hIn
                      have L10 := hidP (L9.out.below hb10)
                      clear hIn hIm hb10 hMeH hrow cA L9
                      go_wp2_with fail
                      refine hInH.out.mono ?_
                      rintro e W11 ⟨rfl, hb11⟩
                      have L11 := hidP (L10.out.below hb11)
                      clear hInH hb11 L10
                      go_wp2_with fail
                      exact ⟨⟨kk + 1, by omega, by go_num, L11⟩, by simp [intOf]; omega⟩
                · have hgeI8 : ¬ (kk : Int) < 4 := by omega
                  have fin : Hid (Lo w bt A O (f2) S7 V8 ∧ Po (f2) S7.l S7.ns ∧ S7.c ≤ 4 + 3 * (j2 + 1) ∧ ∀ q, (f2) q ≤ 4) := ⟨hI8.out, L9h.out.2.1, L9h.out.2.2.1, L9h.out.2.2.2⟩
                  clear hI8
                  go_wp2_with fail
                  exact ⟨⟨j2 + 1, S7, _, by omega, by go_num, fin⟩, by simp [intOf]; omega⟩
          · have hge5 : ¬ (j2 : Int) < (n : Int) := by omega
            have hI6 : Hid (Lo w bt A O f S5 wr ∧ Q 4 (fO f) S5.l ∧ (∀ s ∈ S5.ns, ∃ k, k < 4 ∧ s = nm k) ∧ S5.ns.length ≤ 4 - 0 ∧ S5.c ≤ 10000) := by
              refine ⟨hI5.out.1, hI5.out.2.1.q, fun s hs => ?_, hI5.out.2.1.few hI5.out.1.l.f.g.wf.nn, by have := hI5.out.2.2.1; omega⟩
              obtain ⟨N, hN1, hN2⟩ := hI5.out.2.1.n
              rw [hN1] at hs
              obtain ⟨k, hk, rfl⟩ := List.mem_map.1 hs
              exact ⟨k, hN2 k hk, rfl⟩
            clear hI5
            go_wp2_with fail
            go_loopw [13] (fun i wr => ∃ (k : Nat) (S : St), k ≤ 5 ∧ i = .int .i64 k ∧ Hid (Lo w bt A O f S wr ∧ Q 4 (fO f) S.l ∧ (∀ s ∈ S.ns, ∃ k, k < 4 ∧ s = nm k) ∧ S.ns.length ≤ 4 - k ∧ S.c ≤ 10000)) (fun i _ => 5 - (intOf i).toNat)
            case atStart => exact ⟨0, S5, by omega, rfl, hI6.out⟩
            case round =>
              clear hI6
              obtain ⟨k, S6, hk5, rfl, hI7⟩ := hrel
              by_cases hlt7 : k < 5
              · have hltI7 : (k : Int) < 5 := by omega
                have hEm := emptied_any S6 wr hI7.out.1.l.f.g (fun x hx => by obtain ⟨k', _, rfl⟩ := hI7.out.2.2.1 x hx; rw [nm_size]; omega)
                rw [hI7.out.1.l.bt] at hEm
                have hte := emp_tells S6.l S6.ns
                have hnx : Hid (∀ S8 W8, Goes S6 wr S8 W8 0 → S8.l = S6.l → S8.ns = (empR S6.l S6.ns).2 → (empR S6.l S6.ns).2.length ≤ 4 - (k + 1) → (∀ y ∈ (empR S6.l S6.ns).2, y ∈ S6.ns) → Lo w bt A O f S8 W8 ∧ Q 4 (fO f) S8.l ∧ (∀ s ∈ S8.ns, ∃ k, k < 4 ∧ s = nm k) ∧ S8.ns.length ≤ 4 - (k + 1) ∧ S8.c ≤ 10000) := fun S8 W8 G8 l8 n8 hln hsub =>
                  ⟨hI7.out.1.step G8, by rw [l8]; exact hI7.out.2.1, fun s hs => hI7.out.2.2.1 s (hsub s (by rw [← n8]; exact hs)), by rw [n8]; exact hln, by have := G8.c; have := hI7.out.2.2.2.2; omega⟩
                obtain ⟨R1, hR1⟩ : ∃ R1, (empR S6.l S6.ns).1 = R1 := ⟨_, rfl⟩
                obtain ⟨R2, hR2⟩ : ∃ R2, (empR S6.l S6.ns).2 = R2 := ⟨_, rfl⟩
                rw [hR1, hR2] at hEm hte
                rw [hR2] at hnx
                clear hR1 hR2
                cases R1 with
                | none =>
                  simp only [ifS, Option.getD_none, Option.isSome_none, noName] at hEm
                  have hr2 := hte.1 rfl
                  have hEmH := hidP hEm
                  have hr2H := hidP hr2
                  clear hEm hte hr2 hI7
                  go_wp2_with fail
                  refine hEmH.out.mono ?_
                  rintro e W8 ⟨rfl, S8, G8, l8, n8⟩
                  have fin := hidP (hnx.out S8 W8 G8 l8 n8 (by rw [hr2H.out]; simp) (fun y hy => by rw [hr2H.out] at hy; simp at hy))
                  clear hEmH G8 l8 n8 hnx hr2H
                  go_wp2_with fail
                  all_goals exact ⟨⟨k + 1, S8, by omega, by go_num, fin⟩, by simp [intOf]; omega⟩
                | some x =>
                  obtain ⟨ht1, ht2, ht3, ht4⟩ := hte.2 x rfl
                  obtain ⟨k', hk', hxk⟩ := hI7.out.2.2.1 x ht2
                  have hk4 : k < 4 := by have := hI7.out.2.2.2.1; omega
                  have hk4I : decide ((k : Int) = 4) = false := by simp; omega
                  have hln : R2.length ≤ 4 - (k + 1) := by have := hI7.out.2.2.2.1; omega
                  simp only [ifS, Option.getD_some, Option.isSome_some] at hEm
                  have hEmH := hidP hEm
                  have hfd : Hid (∃ g, fnd S6.l x = some g ∧ g.pids = []) := by
                    obtain ⟨g, e1, e2⟩ := hI7.out.2.1.fnd_some (by omega) hk' (ps := sel f k') rfl
                    rw [← hxk] at e1
                    refine ⟨g, e1, ?_⟩
                    unfold mOf at ht1
                    rw [e1] at ht1
                    exact ht1
                  have hxs : Hid (x.size ≤ 1000) := by show _ ≤ _; rw [hxk, nm_size]; omega
                  have hlnH := hidP (And.intro hln ht4)
                  clear hEm hte ht1 ht2 ht3 ht4 hI7 hxk hk' hln
                  go_wp2_with fail
                  refine hEmH.out.mono ?_
                  rintro e W8 ⟨rfl, S8, G8, l8, n8⟩
                  have F8 := hnx.out S8 W8 G8 l8 n8 hlnH.out.1 hlnH.out.2
                  obtain ⟨g, e1, e2⟩ := hfd.out
                  have hMe := members_some S8 x g W8 F8.1.l.f.g hxs.out (by rw [l8]; exact e1) (by have := F8.2.2.2.2; omega)
                  rw [F8.1.l.bt, e2] at hMe
                  have hMeH := hidP hMe
                  have F8H := hidP F8
                  clear hEmH G8 l8 n8 hnx hfd hlnH F8 e1 e2 hMe hxs
                  go_wp2_with fail
                  refine hMeH.out.mono ?_
                  rintro e W9 ⟨vm, rfl, hIm, _, hb9⟩
                  obtain ⟨pm, cm, rfl, _⟩ := hIm
                  have fin : Hid (Lo w bt A O f S8 W9 ∧ Q 4 (fO f) S8.l ∧ (∀ s ∈ S8.ns, ∃ k, k < 4 ∧ s = nm k) ∧ S8.ns.length ≤ 4 - (k + 1) ∧ S8.c ≤ 10000) := ⟨F8H.out.1.below hb9, F8H.out.2⟩
                  clear hMeH hb9 F8H
                  simp only [List.length_nil]
                  go_wp2_with fail
                  exact ⟨⟨k + 1, S8, by omega, by go_num, fin⟩, by simp [intOf]; omega⟩
              · have hge7 : ¬ (k : Int) < 5 := by omega
                have fin := hidP hI7.out.1.l.f.b
                clear hI7
                go_wp2_with fail
                go_ret
                exact ⟨rfl, fin.out⟩
end Go.Proofs.Ytjjffcgklhclgaa
