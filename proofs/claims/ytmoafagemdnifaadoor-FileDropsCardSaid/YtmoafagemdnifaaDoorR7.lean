/- The contract of the reference's Lines. -/
import Derived.Test.YtmoafagemdnifaaDoorR5
import Derived.Test.YtmoafagemdnifaaDoorR6
import Derived.Test.YtmoafagemdnifaaDoorLN8
import Derived.Test.YtmoafagemdnifaaDoorK0
import Derived.Test.YtmoafagemdnifaaDoorB6
namespace Go.Proofs.YtmoafagemdnifaaDoor
open Go.RowKit Lin
theorem strs_at {w : World} {base : Nat} {v : Value} {l : List L} (h : w.ownsRow base 9 1 v l.length (strs l)) (hl : 0 < l.length) :
    ∃ (g cap : Nat), v = .slice (some ⟨g, 0, none⟩) l.length cap ∧ ∀ (j : Nat) (x : L), l[j]? = some x → w.cell? ⟨g, j, none⟩ = some (.string ⟨x.toArray⟩) := by
  obtain ⟨a, g, cap, hv, ha, hc⟩ := own_cells h
  rw [ha hl] at hv
  refine ⟨g, cap, hv, fun j x hj => ?_⟩
  have := hc j ⟨x.toArray⟩ (by rw [List.getElem?_map, hj]; rfl)
  rwa [Nat.zero_add] at this
set_option maxRecDepth 100000 in
set_option maxHeartbeats 16000000 in
theorem rlines_short (s : ByteArray) (w : World) (hz : s.size ≤ 4000) : Calls Tryd.prog 25 #[.string s] w (LinesP (lns s.data.toList) w) := by
  have hR : Hid (lns s.data.toList = lnsW (whl 0 0 [] (pieces s.data.toList))) := by show _ = _; unfold lns; rw [size_list, if_neg (by omega)]
  obtain ⟨i0, hinf, hz0, hz1, hz2⟩ := info_parts infoL
  have hzI : decide ((4000 : Int) < (s.size : Int)) = false := by simp; omega
  have hraw := raw_any s w (by omega)
  have htot : tot (pieces s.data.toList) ≤ 4001 := by rw [tot_pieces, size_list]; omega
  have hpl : 0 < (pieces s.data.toList).length := List.length_pos_iff.2 (pieces_ne _)
  revert hR hraw htot hpl
  generalize pieces s.data.toList = P
  intro hR hraw htot hpl
  obtain ⟨np, hnp⟩ : ∃ np, P.length = np := ⟨_, rfl⟩
  have hraw' : Hid (Calls Tryd.prog 37 #[.string s] w fun e w' => ∃ v, e = .returned v ∧ w'.ownsRow w.heap.size 9 1 v P.length (strs P) ∧ Below w.heap.size w w' ∧ P.length ≤ s.size + 1) := hraw
  clear hraw
  go_enter Tryd.func25, Tryd.ntmps25
  go_wp2_with fail
  refine hraw'.out.mono ?_
  rintro e w1 ⟨v, rfl, hown1, hb1, hPl⟩
  obtain ⟨g, cap, rfl, hPc⟩ := strs_at hown1 hpl
  have hPcH : Hid (∀ (j : Nat) (x : L), P[j]? = some x → w1.cell? ⟨g, j, none⟩ = some (.string ⟨x.toArray⟩)) := hPc
  have hnpH : Hid (P.length = np) := hnp
  rw [hnp] at hPl hpl ⊢
  clear hown1 hPc hnp hraw'
  go_wp2_with fail
  go_loopw [6, 7] (fun v i wr => ∃ (k : Nat) (acc : List Ln), k ≤ np ∧ i = .int .i64 k ∧ acc.length ≤ k ∧ Hid (lns s.data.toList = pre acc (lnsW (whl k 0 [] (P.drop k)))) ∧ Hid (wr.ownsRow w1.heap.size 60 4 v acc.length (lnsC acc)) ∧ Below w1.heap.size w1 wr) (fun _ i _ => np - (intOf i).toNat)
  case atStart => exact ⟨0, [], by omega, rfl, by simp, by show _ = _; rw [pre_nil, List.drop_zero]; exact hR.out, World.ownsRow_nil _ _ _ _, Below.refl _ _⟩
  case round =>
    obtain ⟨k, acc, hk, rfl, hal, hacc, hown, hb⟩ := hrel
    by_cases hlt : k < np
    · obtain ⟨p, hp⟩ : ∃ p, P[k]? = some p := ⟨_, List.getElem?_eq_getElem (by rw [hnpH.out]; exact hlt)⟩
      have hcell : Hid (∀ (j : Nat) (x : L), P[j]? = some x → wr.cell? ⟨g, j, none⟩ = some (.string ⟨x.toArray⟩)) := fun j x hj => (hb.cell (p := ⟨g, j, none⟩) (cell_lt (hPcH.out j x hj))).trans (hPcH.out j x hj)
      have cS := hcell.out k p hp
      have hdr : Hid (P.drop k = p :: P.drop (k + 1)) := dropP hp
      have htp := tot_drop hp
      have htk : tot (P.drop k) ≤ 4001 := by
        have h1 : ∀ (l : List L) (n : Nat), tot (l.drop n) ≤ tot l := by
          intro l
          induction l with
          | nil => intro n; simp
          | cons a l ih => intro n; cases n with
            | zero => simp
            | succ n => have := ih n; simp only [List.drop_succ_cons, tot]; omega
        exact Nat.le_trans (h1 P k) htot
      have hpH : Hid (P[k]? = some p) := hp
      clear hp
      obtain ⟨S, rfl, hSz, hSe⟩ := letters p
      rw [hSe] at cS
      have hS : S.size ≤ 4000 := by rw [hSz]; omega
      have hkI : (k : Int) < (np : Int) := by omega
      have htr := fun w => rtrim_any S w (by omega)
      obtain ⟨T, hTl, hTz, hTe⟩ := letters (trim S.data.toList)
      rw [hTe] at htr
      have htr' : Hid (∀ w, Calls Tryd.prog 38 #[.string S] w fun e w' => e = .returned (.string T) ∧ w' = w) := htr
      clear htr hTe hSz hSe hTz
      cases hlo : lout S.data.toList
      · obtain ⟨c, r, hcr, h35, h59⟩ := lout_no hlo
        have hacc2 : Hid (lns s.data.toList = pre acc (lnsW (whl k (k + 1) [] (P.drop k)))) := by
          show _ = _
          rw [hacc.out, hdr.out, whl_begin k _ _ hlo]
        have hT0 : (T.toList == []) = false := by rw [Lib.toList_data, hTl, hcr]; rfl
        have hTp := size_pos hT0
        have hTc : T[0] = c := by
          have := get_list T 0 hTp
          rw [hTl, hcr] at this
          exact (Option.some.inj this).symm
        have hTI : (0 : Int) < (T.size : Int) := by omega
        have n1 : ((c.toNat : Int) == 35) = false := beq8 c 35 h35
        have n2 : ((c.toNat : Int) == 59) = false := beq8 c 59 h59
        obtain ⟨nn, hnn⟩ : ∃ nn, k + 1 = nn := ⟨_, rfl⟩
        rw [hnn] at hacc2
        have hnI : (k : Int) + 1 = (nn : Int) := by omega
        have hb0 : S.size + tot (P.drop (k + 1)) ≤ 4000 := by rw [← size_list]; omega
        clear hcr h35 h59 hlo hTl hacc hdr htp htk
        go_wp2_with (go_at_call 38; refine (htr'.out _).mono ?_; rintro e w' ⟨rfl, rfl⟩)
        clear hnI n1 n2 hTI hTc hTp hT0 htr' cS
        go_loop [7, 10] (fun i al => ∃ (j : Nat) (X p : L) (A : ByteArray), k ≤ j ∧ j < np ∧ i = .int .i64 j ∧ al = .string A ∧ Hid (P[j]? = some p) ∧ Hid (A.data.toList = X ++ p) ∧ Hid (X = [] ∨ ∃ Y, X = Y ++ [32]) ∧ A.size + tot (P.drop (j + 1)) ≤ 4000 ∧ Hid (lns s.data.toList = pre acc (lnsW (whl j nn X (P.drop j))))) (fun i _ => np - (intOf i).toNat)
        case atStart => exact ⟨k, [], S.data.toList, S, by omega, hlt, rfl, rfl, hpH, rfl, .inl rfl, hb0, hacc2⟩
        case round =>
          clear hpH hacc2 hb0 hS
          obtain ⟨j, X, p, A, hkj, hj, rfl, rfl, hpj, hA, hX, hAb, hacc⟩ := hrel
          have hsA := suf_app X p hX.out
          rw [← hA.out] at hsA
          cases hsf : Lib.hasSuffix p [92]
          · rw [hsf] at hsA
            have hR2 : Hid (lns s.data.toList = pre acc (lnsW ((nn, A.data.toList) :: whl (j + 1) 0 [] (P.drop (j + 1))))) := by
              show _ = _
              rw [hacc.out, dropP hpj.out, whl_end j nn X p _ (by omega) hsf, hA.out]
            have hcond : (A.size = 0) ∨ ∃ (N : Nat) (c : UInt8), ∃ hN : N < A.size, (A.size : Int) = (N : Int) + 1 ∧ A[N] = c ∧ ((c.toNat : Int) == 92) = false := by
              rcases suf_no hsA with h | ⟨N, c, h1, h2, h3⟩
              · left; rw [← size_list, h]; rfl
              · rw [size_list] at h1
                refine .inr ⟨N, c, by omega, by omega, ?_, beq8 c 92 h3⟩
                have := get_list A N (by omega)
                rw [h2] at this; exact (Option.some.inj this).symm
            clear hsA hsf hA hX hpj hacc
            rcases hcond with h0 | ⟨N, c, hN, hNI, hNc, hn92⟩
            · have hAE : A = ⟨#[]⟩ := by
                have : A.data.toList = [] := List.length_eq_zero_iff.1 (by rw [size_list]; exact h0)
                rw [← Lib.mk_data A, this]
              subst hAE
              clear h0
              have hlg : ¬ 400 < (⟨#[]⟩ : ByteArray).size := by decide
              have hrl := fun w => rline_any (⟨#[]⟩ : ByteArray) nn w (by omega)
              cases hpr : prs (⟨#[]⟩ : ByteArray).data.toList with
              | none =>
                have hErr : Hid (lns s.data.toList = .error (nn, 50)) := by show _ = _; rw [hR2.out]; exact pre_bad _ _ _ _ (by rw [size_list]; exact hlg) hpr
                rw [hpr] at hrl
                have hrl' : Hid (∀ w, Calls Tryd.prog 39 #[.string (⟨#[]⟩ : ByteArray), .int .i64 nn] w fun e w' => (∃ k a b d, e = .returned (.tuple #[.agg #[.int .i64 k, .string a, .string b, .int .i64 d], .bool false])) ∧ Below w.heap.size w w') := hrl
                clear hrl hpr
                go_wp2_with fail
                refine (hrl'.out _).mono ?_
                rintro e w3 ⟨⟨q1, q2, q3, q4, rfl⟩, hb3⟩
                have hb4 : Below w.heap.size w (w3.alloc (.cells #[.int .i64 q1, .string q2, .string q3, .int .i64 q4] 60)) := ((hb1.trans (hb.mono hb1.size)).trans (hb3.mono (by have := hb1.size; have := hb.size; omega))).alloc (by have := hb1.size; have := hb.size; have := hb3.size; omega) _
                go_wp2_with fail
                go_ret3
                rw [hErr.out]
                exact ⟨rfl, hb4⟩
              | some pp => exact absurd hpr (by rw [show prs (⟨#[]⟩ : ByteArray).data.toList = none from rfl]; simp)
            · have hN2 : N ≤ 4000 := by omega
              have hAz : A.size ≤ 5000 := by have := hAb; omega
              clear hAb
              by_cases hlg : 400 < A.size
              · have hErr : Hid (lns s.data.toList = .error (nn, 51)) := by show _ = _; rw [hR2.out]; exact pre_long _ _ _ _ (by rw [size_list]; exact hlg)
                have hlI : (400 : Int) < ((N : Int) + 1) := by omega
                go_wp2_with fail
                go_ret3
                rw [hErr.out]
                exact ⟨rfl, hb1.trans (hb.mono hb1.size)⟩
              · have hlI : decide ((400 : Int) < ((N : Int) + 1)) = false := by simp; omega
                have hlI2 : ¬ ((400 : Int) < ((N : Int) + 1)) := by omega
                have hrl := fun w => rline_any A nn w (by omega)
                cases hpr : prs A.data.toList with
                | none =>
                  have hErr : Hid (lns s.data.toList = .error (nn, 50)) := by show _ = _; rw [hR2.out]; exact pre_bad _ _ _ _ (by rw [size_list]; exact hlg) hpr
                  rw [hpr] at hrl
                  have hrl' : Hid (∀ w, Calls Tryd.prog 39 #[.string A, .int .i64 nn] w fun e w' => (∃ k a b d, e = .returned (.tuple #[.agg #[.int .i64 k, .string a, .string b, .int .i64 d], .bool false])) ∧ Below w.heap.size w w') := hrl
                  clear hrl hpr
                  go_wp2_with fail
                  refine (hrl'.out _).mono ?_
                  rintro e w3 ⟨⟨q1, q2, q3, q4, rfl⟩, hb3⟩
                  have hb4 : Below w.heap.size w (w3.alloc (.cells #[.int .i64 q1, .string q2, .string q3, .int .i64 q4] 60)) := ((hb1.trans (hb.mono hb1.size)).trans (hb3.mono (by have := hb1.size; have := hb.size; omega))).alloc (by have := hb1.size; have := hb.size; have := hb3.size; omega) _
                  go_wp2_with fail
                  go_ret3
                  rw [hErr.out]
                  exact ⟨rfl, hb4⟩
                | some pp =>
                  obtain ⟨kd, ky, vl⟩ := pp
                  obtain ⟨K, rfl, _, hKe⟩ := letters ky
                  obtain ⟨Y, rfl, _, hYe⟩ := letters vl
                  have hGood := pre_good acc nn A.data.toList (whl (j + 1) 0 [] (P.drop (j + 1))) (by rw [size_list]; exact hlg) _ hpr
                  have hacc' : Hid (lns s.data.toList = pre (acc ++ [(kd, K.data.toList, Y.data.toList, nn)]) (lnsW (whl (j + 1) 0 [] (P.drop (j + 1))))) := by show _ = _; rw [hR2.out]; exact hGood
                  have hcl : Hid (lnsC (acc ++ [(kd, K.data.toList, Y.data.toList, nn)]) = lnsC acc ++ [.int .i64 kd, .string K, .string Y, .int .i64 nn]) := by
                    show _ = _
                    rw [lnsC_snoc]
                    show _ ++ [Value.int .i64 kd, .string ⟨K.data.toList.toArray⟩, .string ⟨Y.data.toList.toArray⟩, .int .i64 nn] = _
                    rw [Lib.mk_data, Lib.mk_data]
                  rw [hpr] at hrl
                  unfold RlP at hrl
                  simp only [hKe, hYe] at hrl
                  have hrl' : Hid (∀ w, Calls Tryd.prog 39 #[.string A, .int .i64 nn] w fun e w' => e = .returned (.tuple #[.agg #[.int .i64 kd, .string K, .string Y, .int .i64 nn], .bool true]) ∧ Below w.heap.size w w') := hrl
                  clear hrl hpr hGood hKe hYe
                  go_wp2_with fail
                  refine (hrl'.out _).mono ?_
                  rintro e w3 ⟨rfl, hb3⟩
                  have hbw3 : Below w1.heap.size w1 w3 := hb.trans (hb3.mono hb.size)
                  have hwz3 := hbw3.size
                  have hr1 := ((own_below hown.out hb3).alloc (.cells #[.int .i64 kd, .string K, .string Y, .int .i64 nn] 60)).alloc (.cells #[.int .i64 kd, .string K, .string Y, .int .i64 nn] 60)
                  go_wp2_with (at_builtin; refine wpList_append_own_at _ rfl _ _ 56 rfl w1.heap.size 60 i0 (.agg #[.int .i64 0, .string ⟨#[]⟩, .string ⟨#[]⟩, .int .i64 0]) 4 48 Tryd.underlying56 hinf hz0 hz1 hz2 rfl (by decide) _ _ _ rfl hr1 ⟨w3.heap.size + 1, 0, none⟩ 1 1 [.int .i64 kd, .string K, .string Y, .int .i64 nn] rfl rfl (by simpa using four_new (w3.alloc (.cells #[.int .i64 kd, .string K, .string Y, .int .i64 nn] 60)) _ _ _ _ _) (fun x hx => by simp at hx; rcases hx with rfl | rfl | rfl | rfl <;> rfl) (by unfold maxLen; omega) (by omega) (by simp; omega) ?_; intro v' w4 hown' hgrow _ _)
                  have hb4 : Below w1.heap.size w1 w4 := ((hbw3.alloc hbw3.size _).alloc (by have := hbw3.size; simp; omega) _).grown hgrow (by have := hbw3.size; simp; omega) (fun k e => (hr1.lt k e).1)
                  exact ⟨⟨j + 1, acc ++ [(kd, K.data.toList, Y.data.toList, nn)], by omega, by go_num, by simp; omega, hacc', by rw [hcl.out, List.length_append]; exact hown', hb4⟩, by simp [intOf]; omega⟩
          · rw [hsf] at hsA
            obtain ⟨N, h1, h2⟩ := suf_at hsA
            rw [size_list] at h1
            have hN : N < A.size := by omega
            have hNI : (A.size : Int) = (N : Int) + 1 := by omega
            have hNc : A[N] = 92 := by
              have := get_list A N hN
              rw [h2] at this; exact (Option.some.inj this).symm
            obtain ⟨B, hB⟩ : ∃ B, A.extract 0 N = B := ⟨_, rfl⟩
            have hBl : (B ++ (⟨#[32]⟩ : ByteArray)).data.toList = X ++ Lib.trimSuffix p [92] ++ [32] := by
              rw [app_list]
              show B.data.toList ++ [32] = _
              rw [← hB, Lib.extract_data, List.drop_zero, ← suf_cut X p hsf, ← hA.out, size_list, h1]
              simp
            obtain ⟨C, hC⟩ : ∃ C, B ++ (⟨#[32]⟩ : ByteArray) = C := ⟨_, rfl⟩
            rw [hC] at hBl
            have hCz : C.size = A.size := by
              rw [← size_list C, hBl, ← size_list A, hA.out]
              have := trimS_len hsf
              simp only [List.length_append, List.length_cons, List.length_nil]; omega
            have hBlH : Hid (C.data.toList = X ++ Lib.trimSuffix p [92] ++ [32]) := hBl
            have hacc3 : Hid (lns s.data.toList = pre acc (lnsW (whl (j + 1) nn C.data.toList (P.drop (j + 1))))) := by
              show _ = _
              rw [hacc.out, dropP hpj.out, whl_on j nn X p _ (by omega) hsf, hBl]
            have hN2 : N ≤ 4000 := by omega
            have hBs : B.size ≤ 4000 := by rw [← hB, ← size_list, Lib.extract_data, List.length_take]; omega
            clear hsA hsf hA hX hpj hacc hBl h1 h2
            by_cases hlast : j + 1 = np
            · have hjI : ((j : Int) + 1 == (np : Int)) = true := by simp; omega
              have hR2 : Hid (lns s.data.toList = pre acc (lnsW ((nn, C.data.toList) :: whl (j + 1) 0 [] (P.drop (j + 1))))) := by
                show _ = _
                rw [hacc3.out, List.drop_of_length_le (by rw [hnpH.out]; omega)]
                simp only [whl]
                rw [if_neg (by omega)]
                simp
              rw [← hCz] at hAb
              have hnI : (j : Int) + 1 = (np : Int) := by omega
              clear hCz hBlH hacc3
              have hAz : C.size ≤ 5000 := by have := hAb; omega
              clear hAb
              by_cases hlg : 400 < C.size
              · have hErr : Hid (lns s.data.toList = .error (nn, 51)) := by show _ = _; rw [hR2.out]; exact pre_long _ _ _ _ (by rw [size_list]; exact hlg)
                have hlI : (400 : Int) < (C.size : Int) := by omega
                go_wp2_with fail
                go_ret3
                rw [hErr.out]
                exact ⟨rfl, hb1.trans (hb.mono hb1.size)⟩
              · have hlI : decide ((400 : Int) < (C.size : Int)) = false := by simp; omega
                have hlI2 : ¬ ((400 : Int) < (C.size : Int)) := by omega
                have hrl := fun w => rline_any C nn w (by omega)
                cases hpr : prs C.data.toList with
                | none =>
                  have hErr : Hid (lns s.data.toList = .error (nn, 50)) := by show _ = _; rw [hR2.out]; exact pre_bad _ _ _ _ (by rw [size_list]; exact hlg) hpr
                  rw [hpr] at hrl
                  have hrl' : Hid (∀ w, Calls Tryd.prog 39 #[.string C, .int .i64 nn] w fun e w' => (∃ k a b d, e = .returned (.tuple #[.agg #[.int .i64 k, .string a, .string b, .int .i64 d], .bool false])) ∧ Below w.heap.size w w') := hrl
                  clear hrl hpr
                  go_wp2_with fail
                  refine (hrl'.out _).mono ?_
                  rintro e w3 ⟨⟨q1, q2, q3, q4, rfl⟩, hb3⟩
                  have hb4 : Below w.heap.size w (w3.alloc (.cells #[.int .i64 q1, .string q2, .string q3, .int .i64 q4] 60)) := ((hb1.trans (hb.mono hb1.size)).trans (hb3.mono (by have := hb1.size; have := hb.size; omega))).alloc (by have := hb1.size; have := hb.size; have := hb3.size; omega) _
                  go_wp2_with fail
                  go_ret3
                  rw [hErr.out]
                  exact ⟨rfl, hb4⟩
                | some pp =>
                  obtain ⟨kd, ky, vl⟩ := pp
                  obtain ⟨K, rfl, _, hKe⟩ := letters ky
                  obtain ⟨Y, rfl, _, hYe⟩ := letters vl
                  have hGood := pre_good acc nn C.data.toList (whl (j + 1) 0 [] (P.drop (j + 1))) (by rw [size_list]; exact hlg) _ hpr
                  have hacc' : Hid (lns s.data.toList = pre (acc ++ [(kd, K.data.toList, Y.data.toList, nn)]) (lnsW (whl (j + 1) 0 [] (P.drop (j + 1))))) := by show _ = _; rw [hR2.out]; exact hGood
                  have hcl : Hid (lnsC (acc ++ [(kd, K.data.toList, Y.data.toList, nn)]) = lnsC acc ++ [.int .i64 kd, .string K, .string Y, .int .i64 nn]) := by
                    show _ = _
                    rw [lnsC_snoc]
                    show _ ++ [Value.int .i64 kd, .string ⟨K.data.toList.toArray⟩, .string ⟨Y.data.toList.toArray⟩, .int .i64 nn] = _
                    rw [Lib.mk_data, Lib.mk_data]
                  rw [hpr] at hrl
                  unfold RlP at hrl
                  simp only [hKe, hYe] at hrl
                  have hrl' : Hid (∀ w, Calls Tryd.prog 39 #[.string C, .int .i64 nn] w fun e w' => e = .returned (.tuple #[.agg #[.int .i64 kd, .string K, .string Y, .int .i64 nn], .bool true]) ∧ Below w.heap.size w w') := hrl
                  clear hrl hpr hGood hKe hYe
                  go_wp2_with fail
                  refine (hrl'.out _).mono ?_
                  rintro e w3 ⟨rfl, hb3⟩
                  have hbw3 : Below w1.heap.size w1 w3 := hb.trans (hb3.mono hb.size)
                  have hwz3 := hbw3.size
                  have hr1 := ((own_below hown.out hb3).alloc (.cells #[.int .i64 kd, .string K, .string Y, .int .i64 nn] 60)).alloc (.cells #[.int .i64 kd, .string K, .string Y, .int .i64 nn] 60)
                  go_wp2_with (at_builtin; refine wpList_append_own_at _ rfl _ _ 56 rfl w1.heap.size 60 i0 (.agg #[.int .i64 0, .string ⟨#[]⟩, .string ⟨#[]⟩, .int .i64 0]) 4 48 Tryd.underlying56 hinf hz0 hz1 hz2 rfl (by decide) _ _ _ rfl hr1 ⟨w3.heap.size + 1, 0, none⟩ 1 1 [.int .i64 kd, .string K, .string Y, .int .i64 nn] rfl rfl (by simpa using four_new (w3.alloc (.cells #[.int .i64 kd, .string K, .string Y, .int .i64 nn] 60)) _ _ _ _ _) (fun x hx => by simp at hx; rcases hx with rfl | rfl | rfl | rfl <;> rfl) (by unfold maxLen; omega) (by omega) (by simp; omega) ?_; intro v' w4 hown' hgrow _ _)
                  have hb4 : Below w1.heap.size w1 w4 := ((hbw3.alloc hbw3.size _).alloc (by have := hbw3.size; simp; omega) _).grown hgrow (by have := hbw3.size; simp; omega) (fun k e => (hr1.lt k e).1)
                  exact ⟨⟨j + 1, acc ++ [(kd, K.data.toList, Y.data.toList, nn)], by omega, by go_num, by simp; omega, hacc', by rw [hcl.out, List.length_append]; exact hown', hb4⟩, by simp [intOf]; omega⟩
            · have hjI : ((j : Int) + 1 == (np : Int)) = false := by simp; omega
              have hjl : (j : Int) + 1 < (np : Int) := by omega
              obtain ⟨p', hp'⟩ : ∃ p, P[j + 1]? = some p := ⟨_, List.getElem?_eq_getElem (by rw [hnpH.out]; omega)⟩
              have cS := hcell.out (j + 1) p' hp'
              have htp := tot_drop hp'
              have hp'H : Hid (P[j + 1]? = some p') := hp'
              clear hp'
              obtain ⟨Q, rfl, hQz, hQe⟩ := letters p'
              rw [hQe] at cS
              have hQl : Hid ((C ++ Q).data.toList = C.data.toList ++ Q.data.toList) := by show _ = _; simp
              have hQs : (C ++ Q).size + tot (P.drop (j + 1 + 1)) ≤ 4000 := by
                rw [← size_list (C ++ Q), hQl.out, List.length_append, size_list C, hCz]; omega
              have hCs : C.size ≤ 4000 := by omega
              have hQs2 : Q.size ≤ 4000 := by rw [hQz]; omega
              clear hQz hQe htp hCz hAb
              go_wp2_with fail
              exact ⟨⟨j + 1, C.data.toList, Q.data.toList, C ++ Q, by omega, by omega, by go_num, rfl, hp'H, hQl, .inr ⟨_, hBlH.out⟩, hQs, hacc3⟩, by simp [intOf]; omega⟩
      · have hN : Hid (lns s.data.toList = pre acc (lnsW (whl (k + 1) 0 [] (P.drop (k + 1))))) := by
          show _ = _
          rw [hacc.out, hdr.out, whl_out k [] _ _ hlo]
        have hT : (T.toList == []) = true ∨ ∃ c : UInt8, ∃ hp : 0 < T.size, (T.toList == []) = false ∧ T[0] = c ∧ ((c.toNat : Int) = 35 ∨ (((c.toNat : Int) == 35) = false ∧ (c.toNat : Int) = 59)) := by
          rcases lout_yes hlo with h | ⟨c, r, hcr, h⟩
          · left; rw [Lib.toList_data, hTl, h]; rfl
          · right
            have hT0 : (T.toList == []) = false := by rw [Lib.toList_data, hTl, hcr]; rfl
            refine ⟨c, size_pos hT0, hT0, ?_, ?_⟩
            · have := get_list T 0 (size_pos hT0)
              rw [hTl, hcr] at this
              exact (Option.some.inj this).symm
            · rcases h with h | h
              · left; rw [h]; rfl
              · right; rw [h]; exact ⟨rfl, rfl⟩
        clear hlo hTl hacc hdr htp htk
        rcases hT with hT0 | ⟨c, hTp, hT0, hTc, n1 | ⟨n1, n2⟩⟩
        · go_wp2_with (go_at_call 38; refine (htr'.out _).mono ?_; rintro e w' ⟨rfl, rfl⟩)
          exact ⟨⟨k + 1, acc, by omega, by go_num, by omega, hN, hown, hb⟩, by simp [intOf]; omega⟩
        · have hTI : (0 : Int) < (T.size : Int) := by omega
          go_wp2_with (go_at_call 38; refine (htr'.out _).mono ?_; rintro e w' ⟨rfl, rfl⟩)
          exact ⟨⟨k + 1, acc, by omega, by go_num, by omega, hN, hown, hb⟩, by simp [intOf]; omega⟩
        · have hTI : (0 : Int) < (T.size : Int) := by omega
          go_wp2_with (go_at_call 38; refine (htr'.out _).mono ?_; rintro e w' ⟨rfl, rfl⟩)
          exact ⟨⟨k + 1, acc, by omega, by go_num, by omega, hN, hown, hb⟩, by simp [intOf]; omega⟩
    · obtain rfl : k = np := by omega
      have hkI : ¬ ((k : Int) < (k : Int)) := by omega
      have hOk : Hid (lns s.data.toList = .ok acc) := by
        have := hacc.out
        rw [List.drop_of_length_le (by rw [hnpH.out]; omega)] at this
        exact pre_ok this
      go_wp2_with fail
      go_ret3
      rw [hOk.out]
      exact ⟨_, rfl, own_base hown.out hb1.size, hb1.trans (hb.mono hb1.size)⟩
end Go.Proofs.YtmoafagemdnifaaDoor
