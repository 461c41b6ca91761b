/- The walk of the law NamePaths. -/
import Derived.Test.YtimmieelpaoncaaDoorK1
import Derived.Test.YtimmieelpaoncaaDoorNM4
import Derived.Test.YtimmieelpaoncaaDoorRowS
import Derived.Test.YtimmieelpaoncaaDoorLBack
namespace Go.Proofs.YtimmieelpaoncaaDoor
open Go.RowKit Nam
theorem list_app' (a b : ByteArray) : (a ++ b).data.toList = a.data.toList ++ b.data.toList := by rw [app_list]
theorem size_app' (a b : ByteArray) : (a ++ b).size = a.size + b.size := by rw [← size_list, list_app', List.length_append, size_list, size_list]
theorem ofPath_of (s T : ByteArray) (w : World) (hg : GlN w) (hs : s.size ≤ 1000000) (h : ofPath s.data.toList = some T.data.toList) :
    Calls Tryd.prog 26 #[.string s] w fun e w' => e = .returned (.tuple #[.string T, .int .i64 0]) ∧ Below w.heap.size w w' := by
  have := ofPath_any s w hg hs
  rw [strE_of h] at this
  exact this
set_option maxHeartbeats 4000000 in
theorem paths_walk (a : Option Addr) (b o len cap : Nat) (zs : List ByteArray) (w : World) (hg : GlN w) (ha : 0 < len → a = some ⟨b, o, none⟩) (hz : zs.length = len) (hel : ∀ j x, zs[j]? = some x → w.cell? ⟨b, o + j, none⟩ = some (.string x)) (hm : ∀ x ∈ zs, x.size ≤ maxLen) (hlm : len ≤ maxLen) :
    Calls Tryd.prog 8 #[.slice a len cap] w fun e w' => e = .returned (.bool true) ∧ Below w.heap.size w w' := by
  unfold maxLen at hm hlm
  have hkn := known_any w hg
  by_cases h1 : len < 1
  · have h1' : (len : Int) < 1 := by omega
    clear hel hm hz ha
    go_enter Tryd.func8, Tryd.ntmps8
    go_wp2_with fail
    refine hkn.mono ?_
    rintro e w1 ⟨rfl, hb1⟩
    go_wp2_with fail
    go_ret
    exact ⟨rfl, hb1⟩
  by_cases h8 : 8 < len
  · have h1' : decide ((len : Int) < 1) = false := by simp; omega
    have h8' : (8 : Int) < (len : Int) := by omega
    clear hel hm hz ha
    go_enter Tryd.func8, Tryd.ntmps8
    go_wp2_with fail
    refine hkn.mono ?_
    rintro e w1 ⟨rfl, hb1⟩
    go_wp2_with fail
    go_ret
    exact ⟨rfl, hb1⟩
  obtain rfl := ha (by omega)
  have h1' : decide ((len : Int) < 1) = false := by simp; omega
  have h8' : decide ((8 : Int) < (len : Int)) = false := by simp; omega
  have hel' : Hid (∀ j x, zs[j]? = some x → w.cell? ⟨b, o + j, none⟩ = some (.string x)) := hel
  have hm' : Hid (∀ x ∈ zs, x.size ≤ 9223372036854775807) := hm
  have hz' : Hid (zs.length = len) := hz
  clear hel hm hz ha
  go_enter Tryd.func8, Tryd.ntmps8
  go_wp2_with fail
  refine hkn.mono ?_
  rintro e w1 ⟨rfl, hb1⟩
  go_wp2_with fail
  go_loop [3, 4] (fun p i => ∃ (j : Nat) (P : ByteArray), j ≤ len ∧ i = .int .i64 j ∧ p = .string P ∧ P.size ≤ 41 * j ∧ Hid (P.data.toList = pth ((zs.take j).map fun z => z.data.toList)) ∧ Hid (∀ z ∈ zs.take j, gd z.data.toList)) (fun _ i => len - (intOf i).toNat)
  case atStart => exact ⟨0, ⟨#[]⟩, by omega, rfl, rfl, by decide, rfl, by show ∀ z ∈ _, _; simp⟩
  case round =>
    obtain ⟨j, P, hj, rfl, rfl, hPs, hPl, hgd⟩ := hrel
    by_cases hlt : j < len
    · obtain ⟨x, hx⟩ : ∃ x, zs[j]? = some x := ⟨_, List.getElem?_eq_getElem (by rw [hz'.out]; exact hlt)⟩
      have hxs := hm'.out x (List.mem_of_getElem? hx)
      have c00 := hel'.out j x hx
      have c0 := (hb1.cell (p := ⟨b, o + j, none⟩) (cell_lt c00)).trans c00
      have htk : Hid (zs.take (j + 1) = zs.take j ++ [x]) := by
        show _ = _
        rw [List.take_add_one, hx]; rfl
      clear hx c00
      cases t0 : (x.toList == [])
      · cases t1 : (x.toList == [46])
        · cases t2 : (x.toList == [46, 46])
          · by_cases t3 : 40 < x.size
            · have t3' : (40 : Int) < (x.size : Int) := by omega
              go_wp2_with fail
              go_ret
              exact ⟨rfl, hb1⟩
            · have t3' : decide ((40 : Int) < (x.size : Int)) = false := by simp; omega
              have hok : Hid (okp x.data.toList = true) := by
                show _ = _
                rw [okp, ← Lib.toList_data, t0, t1, t2]; rfl
              go_wp2_with fail
              go_loop [6] (fun i => ∃ k : Nat, k ≤ x.size ∧ i = .int .i64 k ∧ Hid (∀ c ∈ x.data.toList.take k, c ≠ 47)) (fun i => x.size - (intOf i).toNat)
              case atStart => exact ⟨0, by omega, rfl, by show ∀ c ∈ _, _; simp⟩
              case round =>
                obtain ⟨k, hk, rfl, hno⟩ := hrel
                by_cases hkl : k < x.size
                · have htx : Hid (x.data.toList.take (k + 1) = x.data.toList.take k ++ [x[k]]) := by
                    show _ = _
                    rw [List.take_add_one, get_list x k hkl]; rfl
                  obtain ⟨c, hc⟩ : ∃ c, x[k] = c := ⟨_, rfl⟩
                  rw [hc] at htx
                  by_cases h47 : c = 47
                  · have h47' : (c.toNat : Int) = 47 := by rw [h47]; rfl
                    clear h47
                    go_wp2_with fail
                    go_ret
                    exact ⟨rfl, hb1⟩
                  · have h47' : ¬ (c.toNat : Int) = 47 := fun e => h47 (UInt8.toNat_inj.1 (by simp; omega))
                    have hn : Hid (∀ c ∈ x.data.toList.take (k + 1), c ≠ 47) := by
                      show ∀ c ∈ _, _
                      rw [htx.out]
                      intro d hd
                      rcases List.mem_append.1 hd with hd | hd
                      · exact hno.out d hd
                      · have : d = c := by simpa using hd
                        rw [this]; exact h47
                    clear h47
                    go_wp2_with fail
                    exact ⟨⟨k + 1, by omega, by go_num, hn⟩, by simp [intOf]; omega⟩
                · obtain rfl : k = x.size := by omega
                  have hn : Hid (gd x.data.toList) := by
                    have := hno.out
                    rw [List.take_of_length_le (by rw [size_list]; omega)] at this
                    exact ⟨hok.out, this⟩
                  have hP1 : (P ++ (⟨#[47]⟩ : ByteArray) ++ x).size = P.size + 1 + x.size := by rw [size_app', size_app']; rfl
                  have hPl2 : Hid ((P ++ (⟨#[47]⟩ : ByteArray) ++ x).data.toList = pth ((zs.take (j + 1)).map fun z => z.data.toList)) := by
                    show _ = _
                    rw [htk.out, List.map_append, list_app', list_app', hPl.out]
                    show _ = pth (_ ++ [x.data.toList])
                    rw [pth_snoc]; simp
                  have hgd2 : Hid (∀ z ∈ zs.take (j + 1), gd z.data.toList) := by
                    show ∀ z ∈ _, _
                    rw [htk.out]
                    intro z hz
                    rcases List.mem_append.1 hz with hz | hz
                    · exact hgd.out z hz
                    · have : z = x := by simpa using hz
                      rw [this]; exact hn.out
                  have hP1' : Hid ((P ++ (⟨#[47]⟩ : ByteArray) ++ x).size = P.size + 1 + x.size) := hP1
                  clear hP1
                  go_wp2_with fail
                  exact ⟨⟨j + 1, _, by omega, by go_num, rfl, by rw [hP1'.out]; omega, hPl2, hgd2⟩, by simp [intOf]; omega⟩
          · go_wp2_with fail
            go_ret
            exact ⟨rfl, hb1⟩
        · go_wp2_with fail
          go_ret
          exact ⟨rfl, hb1⟩
      · go_wp2_with fail
        go_ret
        exact ⟨rfl, hb1⟩
    · obtain rfl : j = len := by omega
      have hT : zs.take zs.length = zs := List.take_length
      rw [← hz'.out, hT] at hPl hgd
      clear hT
      obtain ⟨z0, r, hzr⟩ : ∃ z0 r, zs = z0 :: r := by
        cases zs with
        | nil => have := hz'.out; simp at this; omega
        | cons z0 r => exact ⟨z0, r, rfl⟩
      rw [hzr, List.map_cons] at hPl
      have g0 : gd z0.data.toList := hgd.out z0 (by rw [hzr]; simp)
      have gr : ∀ y ∈ r.map fun z => z.data.toList, gd y := by
        intro y hy
        obtain ⟨z, hz, rfl⟩ := List.mem_map.1 hy
        exact hgd.out z (by rw [hzr]; simp [hz])
      obtain ⟨I, hIl, hIz, _⟩ := letters (z0.data.toList ++ pth (r.map fun z => z.data.toList))
      have hPI : P.data.toList = 47 :: I.data.toList := by rw [hPl.out, pth_cons, hIl]
      have hIs : I.size + 1 = P.size := by
        have := congrArg List.length hPI
        rw [List.length_cons, size_list, size_list] at this; omega
      obtain ⟨X, hXl, hXs, _⟩ := esc_letter I (by omega)
      have e1 : ofPath P.data.toList = some X.data.toList := by rw [hPl.out, ofPath_pth g0 gr, hXl, hIl]
      have e2 : ofPath (P ++ (⟨#[47]⟩ : ByteArray)).data.toList = some X.data.toList := by
        rw [list_app', hPl.out]
        show ofPath (_ ++ [47]) = _
        rw [ofPath_pth2 g0 gr, hXl, hIl]
      have e3 : ofPath ((⟨#[120]⟩ : ByteArray) ++ P).data.toList = none := by rw [list_app']; exact ofPath_x _
      have d1 : Hid (∀ w, GlN w → Calls Tryd.prog 26 #[.string P] w fun e w' => e = .returned (.tuple #[.string X, .int .i64 0]) ∧ Below w.heap.size w w') := fun w hg => ofPath_of P X w hg (by omega) e1
      have d2 : Hid (∀ w, GlN w → Calls Tryd.prog 26 #[.string (P ++ ⟨#[47]⟩)] w fun e w' => e = .returned (.tuple #[.string X, .int .i64 0]) ∧ Below w.heap.size w w') := fun w hg => ofPath_of _ X w hg (by rw [size_app']; show _ + 1 ≤ _; omega) e2
      have d3 : Hid (∀ w, Calls Tryd.prog 24 #[.string X] w fun e w' => e = .returned (.tuple #[.string I, .int .i64 0]) ∧ Below w.heap.size w w') := fun w => by
        have := unescape_any X w (by omega)
        rw [strE_of (T := I) (by rw [hXl, unesc_esc])] at this
        exact this
      have d4 : Hid (∀ w, GlN w → Calls Tryd.prog 26 #[.string ((⟨#[120]⟩ : ByteArray) ++ P)] w fun e w' => e = .returned (.tuple #[.string ⟨#[]⟩, .int .i64 41]) ∧ Below w.heap.size w w') := fun w hg => by
        have := ofPath_any ((⟨#[120]⟩ : ByteArray) ++ P) w hg (by rw [size_app']; show 1 + _ ≤ _; omega)
        rw [e3] at this
        exact this
      have hxI : P.extract 1 P.size = I := by
        rw [Lib.extract_eq, hPI]
        rw [List.drop_succ_cons, List.drop_zero, List.take_of_length_le (by rw [size_list]; omega), Lib.mk_data]
      have hPz : (1 : Int) ≤ (P.size : Int) := by omega
      clear e1 e2 e3 hXl hIl hIz hPI hzr g0 gr hIs
      go_wp2_with fail
      refine (d1.out _ (hg.below hb1)).mono ?_
      rintro e w2 ⟨rfl, hb2⟩
      have hb12 := hb1.trans (hb2.mono hb1.size)
      go_wp2_with fail
      refine (d2.out _ (hg.below hb12)).mono ?_
      rintro e w3 ⟨rfl, hb3⟩
      have hb13 := hb12.trans (hb3.mono hb12.size)
      go_wp2_with fail
      refine (d3.out _).mono ?_
      rintro e w4 ⟨rfl, hb4⟩
      have hb14 := hb13.trans (hb4.mono hb13.size)
      go_wp2_with fail
      refine (d4.out _ (hg.below hb14)).mono ?_
      rintro e w5 ⟨rfl, hb5⟩
      have hb15 := hb14.trans (hb5.mono hb14.size)
      go_wp2_with fail
      go_ret
      exact ⟨rfl, hb15⟩
end Go.Proofs.YtimmieelpaoncaaDoor
