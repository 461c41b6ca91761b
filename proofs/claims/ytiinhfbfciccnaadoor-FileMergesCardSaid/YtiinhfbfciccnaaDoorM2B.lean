/- The contract of the reference's Merge. -/
import Derived.Test.YtiinhfbfciccnaaDoorM1B
import Derived.Test.YtiinhfbfciccnaaDoorYI
namespace Go.Proofs.YtiinhfbfciccnaaDoor
open Go.RowKit Go.Shelf
def keepR (x y : St) : Bool := !decide (y.s = x.s ∧ y.k = x.k)
theorem stepR_drop {out : List St} {x : St} (h : x.v = ⟨#[]⟩) : stepR out x = out.filter (keepR x) := if_pos h
theorem stepR_add {out : List St} {x : St} (h : ¬ x.v = ⟨#[]⟩) : stepR out x = out ++ [x] := if_neg h
theorem filt_take {out : List St} {j : Nat} {x y : St} (h : out[j]? = some y) : (out.take (j + 1)).filter (keepR x) = (out.take j).filter (keepR x) ++ (if keepR x y then [y] else []) := by
  rw [take_snocS h, List.filter_append]
  cases hk : keepR x y <;> simp [hk]
theorem stepR_len1 (out : List St) (x : St) : (stepR out x).length ≤ out.length + 1 := by
  unfold stepR
  split
  · have := List.length_filter_le (fun y => !decide (y.s = x.s ∧ y.k = x.k)) out; omega
  · simp
theorem foldR_len : ∀ (l out : List St), (l.foldl stepR out).length ≤ out.length + l.length
  | [], _ => by simp
  | x :: r, out => by
    rw [List.foldl_cons]
    have h1 := foldR_len r (stepR out x)
    have h2 := stepR_len1 out x
    simp only [List.length_cons]; omega
def flatF (fs : List (Value × List St)) : List St := fs.flatMap Prod.snd
theorem flatF_take {fs : List (Value × List St)} {i : Nat} {p : Value × List St} (h : fs[i]? = some p) : flatF (fs.take (i + 1)) = flatF (fs.take i) ++ p.2 := by
  unfold flatF
  rw [List.take_add_one, h, List.flatMap_append]
  simp
theorem flatF_le (fs : List (Value × List St)) (i : Nat) : (flatF (fs.take i)).length ≤ (flatF fs).length := by
  have h : flatF fs = flatF (fs.take i) ++ flatF (fs.drop i) := by unfold flatF; rw [← List.flatMap_append, List.take_append_drop]
  rw [h, List.length_append]; omega
set_option maxRecDepth 100000 in
set_option maxHeartbeats 8000000 in
theorem rmerge_any (a : Option Addr) (n c : Nat) (fs : List (Value × List St)) (w : World) (hfs : FsIs (fun _ => False) w (.slice a n c) fs) (hl : fs.length ≤ 1000000) (ht : (flatF fs).length ≤ 1000000) :
    Calls Tryd.prog 13 #[.slice a n c] w fun e w' => ∃ v, e = .returned (.agg #[v]) ∧ w'.ownsRow w.heap.size 44 4 v ((flatF fs).foldl stepR []).length (stsC ((flatF fs).foldl stepR [])) ∧ Below w.heap.size w w' := by
  obtain ⟨i0, hinf, hz0, hz1, hz2⟩ := info_parts infoSt
  obtain ⟨a', c', hv, h1, h2⟩ := hfs
  simp only [Value.slice.injEq] at hv
  obtain ⟨rfl, rfl, rfl⟩ := hv
  obtain ⟨n, hn⟩ : ∃ n, fs.length = n := ⟨_, rfl⟩
  rw [hn] at h1 hl ⊢
  have hN : Hid (fs.length = n) := hn
  have h1H : Hid (0 < n → ∃ g o, a = some ⟨g, o, none⟩ ∧ ¬ False ∧ ∀ (j : Nat) p, fs[j]? = some p → w.cell? ⟨g, o + j, none⟩ = some p.1) := h1
  have h2H : Hid (∀ p ∈ fs, SlIs (fun _ => False) w p.1 p.2) := h2
  obtain ⟨W0, hW0⟩ : ∃ W0, w.alloc (.cells #[.slice none 0 0] 25) = W0 := ⟨_, rfl⟩
  have m0 : Mv (fun _ => False) w W0 := by rw [← hW0]; exact Mv.alloc _ _ _
  have k0 : Cl w.heap.size (.slice none 0 0) W0 := by rw [← hW0]; exact ⟨cell_at rfl rfl, World.frozen?_alloc_new _ _ _ _⟩
  have hsz0 : Hid (W0.heap.size = w.heap.size + 1) := by show _ = _; rw [← hW0]; simp
  have htH : Hid ((flatF fs).length ≤ 1000000) := ht
  clear hn h1 h2 ht
  go_enter Tryd.func13, Tryd.ntmps13
  go_wp2_with (rw [hW0])
  clear hW0
  go_loopw [3, 4] (fun v3 v4 wx => ∃ (i : Nat) (out : List St), i ≤ n ∧ v4 = .int .i64 i ∧ Hid (out = (flatF (fs.take i)).foldl stepR []) ∧ Hid (wx.ownsRow W0.heap.size 44 4 v3 out.length (stsC out)) ∧ Mv (fun _ => False) W0 wx) (fun _ v4 _ => n - (intOf v4).toNat)
  case atStart => exact ⟨0, [], by omega, rfl, rfl, World.ownsRow_nil _ _ _ _, Mv.refl _ _⟩
  case round =>
    obtain ⟨i, out, hi, rfl, hout, hown, hm⟩ := hrel
    by_cases hlt : i < n
    · obtain ⟨g, o, rfl, -, hst⟩ := h1H.out (by omega)
      obtain ⟨p, hp⟩ : ∃ p, fs[i]? = some p := ⟨_, List.getElem?_eq_getElem (by rw [hN.out]; exact hlt)⟩
      obtain ⟨vi, ls⟩ := p
      have p0 := m0.cell (fun h => h) (hst i _ hp)
      have hsl := h2H.out _ (List.mem_of_getElem? hp)
      obtain ⟨aS, cS, hvs, hs1⟩ := hsl
      dsimp only at hvs hs1 p0
      subst hvs
      obtain ⟨q, hq⟩ : ∃ q, ls.length = q := ⟨_, rfl⟩
      rw [hq] at hs1 p0
      have hqH : Hid (ls.length = q) := hq
      have hs1H : Hid (0 < q → ∃ g o, aS = some ⟨g, o, none⟩ ∧ ¬ False ∧ StAt w g o ls) := hs1
      have hft := flatF_take hp
      have hfl := flatF_le fs (i + 1)
      rw [hft, List.length_append] at hfl
      have hfl2 : Hid ((flatF (fs.take i)).length + q ≤ 1000000) := by show _ ≤ _; have := htH.out; dsimp only at hfl; omega
      have hftH : Hid (flatF (fs.take (i + 1)) = flatF (fs.take i) ++ ls) := hft
      have hqb : q ≤ 1000000 := by have := hfl2.out; omega
      have hiI : (i : Int) < (n : Int) := by omega
      have p00 := hm.cell (fun h => h) p0
      clear hst hp hq hs1 hft hfl
      go_wp2_with fail
      go_loopw [3, 5] (fun v3 v5 wx => ∃ (k : Nat) (out : List St), k ≤ q ∧ v5 = .int .i64 k ∧ Hid (out = (ls.take k).foldl stepR ((flatF (fs.take i)).foldl stepR [])) ∧ Hid (wx.ownsRow W0.heap.size 44 4 v3 out.length (stsC out)) ∧ Mv (fun _ => False) W0 wx) (fun _ v5 _ => q - (intOf v5).toNat)
      case atStart => exact ⟨0, out, by omega, rfl, by rw [hout.out]; rfl, hown, hm⟩
      case round =>
        clear p00 hout hown hm
        clear out
        obtain ⟨k, out, hk, rfl, hout, hown, hm⟩ := hrel
        have p1 := hm.cell (fun h => h) p0
        by_cases hlk : k < q
        · obtain ⟨gs, os, rfl, -, hst⟩ := hs1H.out (by omega)
          obtain ⟨x, hx⟩ : ∃ x, ls[k]? = some x := ⟨_, List.getElem?_eq_getElem (by rw [hqH.out]; exact hlk)⟩
          obtain ⟨c0, c1, c2, c3⟩ := ((hst k x hx).mv m0 (fun h => h)).mv hm (fun h => h)
          have hol : out.length ≤ 1000000 := by
            rw [hout.out]
            have h1 := foldR_len (ls.take k) ((flatF (fs.take i)).foldl stepR [])
            have h2 := foldR_len (flatF (fs.take i)) []
            have h3 := hfl2.out
            rw [List.length_take] at h1
            simp only [List.length_nil] at h2
            omega
          have hnx : Hid ((ls.take (k + 1)).foldl stepR ((flatF (fs.take i)).foldl stepR []) = stepR out x) := by show _ = _; rw [take_snocS hx, List.foldl_append, ← hout.out]; rfl
          have hkI : (k : Int) < (q : Int) := by omega
          obtain ⟨U1, hU1⟩ : ∃ U1, wr.alloc (.cells #[.string x.s, .string x.k, .string x.v, .int .i64 x.n] 44) = U1 := ⟨_, rfl⟩
          have mU1 : Mv (fun _ => False) wr U1 := by rw [← hU1]; exact Mv.alloc _ _ _
          obtain ⟨G, hG⟩ : ∃ G, wr.heap.size = G := ⟨_, rfl⟩
          have x0 : U1.cell? ⟨G, 0, none⟩ = some (.string x.s) := by rw [← hU1, ← hG]; exact cell_at rfl rfl
          have x1 : U1.cell? ⟨G, 1, none⟩ = some (.string x.k) := by rw [← hU1, ← hG]; exact cell_at rfl rfl
          have x2 : U1.cell? ⟨G, 2, none⟩ = some (.string x.v) := by rw [← hU1, ← hG]; exact cell_at rfl rfl
          have x3 : U1.cell? ⟨G, 3, none⟩ = some (.int .i64 x.n) := by rw [← hU1, ← hG]; exact cell_at rfl rfl
          have hmU := hm.trans' mU1
          have hownU := own_mv hown.out mU1 (fun _ _ h => h)
          have hmUH : Hid (Mv (fun _ => False) W0 U1) := hmU
          clear hst hx hout hm hmU hown
          by_cases hv : x.v = ⟨#[]⟩
          · have hvB : (x.v.toList == []) = true := by rw [str_nil, hv]; rfl
            rw [stepR_drop hv] at hnx
            obtain ⟨ao, no, co, rfl⟩ := own_shape hownU
            obtain rfl := own_len hownU
            have hsl := own_slis (fun _ => False) (fun _ _ _ h => h) hownU
            obtain ⟨a3, c3', hv3, hs3⟩ := hsl
            simp only [Value.slice.injEq] at hv3
            obtain ⟨rfl, -, rfl⟩ := hv3
            obtain ⟨r, hr⟩ : ∃ r, out.length = r := ⟨_, rfl⟩
            rw [hr] at hs3 hol ⊢
            have hrH : Hid (out.length = r) := hr
            have hs3H : Hid (0 < r → ∃ g o, ao = some ⟨g, o, none⟩ ∧ ¬ False ∧ StAt U1 g o out) := hs3
            clear hv hownU hr hs3
            go_wp2_with (rw [hU1])
            clear hU1 hG
            go_loopw [7, 8] (fun v7 v8 wx => ∃ (j : Nat) (left : List St), j ≤ r ∧ v8 = .int .i64 j ∧ left.length ≤ j ∧ Hid (left = (out.take j).filter (keepR x)) ∧ Hid (wx.ownsRow U1.heap.size 44 4 v7 left.length (stsC left)) ∧ Mv (fun _ => False) U1 wx) (fun _ v8 _ => r - (intOf v8).toNat)
            case atStart => exact ⟨0, [], by omega, rfl, by simp, rfl, World.ownsRow_nil _ _ _ _, Mv.refl _ _⟩
            case round =>
              obtain ⟨j, left, hj, rfl, hll, hleft, hownL, hmL⟩ := hrel
              by_cases hlj : j < r
              · obtain ⟨g3, o3, rfl, -, hst3⟩ := hs3H.out (by omega)
                obtain ⟨y, hy⟩ : ∃ y, out[j]? = some y := ⟨_, List.getElem?_eq_getElem (by rw [hrH.out]; exact hlj)⟩
                obtain ⟨d0, d1, d2, d3⟩ := (hst3 j y hy).mv hmL (fun h => h)
                have e0 := hmL.cell (fun h => h) x0
                have e1 := hmL.cell (fun h => h) x1
                have hjI : (j : Int) < (r : Int) := by omega
                have hft := filt_take (x := x) hy
                rw [← hleft.out] at hft
                have hmLH : Hid (Mv (fun _ => False) U1 wr) := hmL
                clear hst3 hy hleft hmL
                go_upto_region 15 with fail
                go_cut [63] from 40 to 70 (fun cc wx => cc = .bool (keepR x y) ∧ Mv (fun _ => False) wr wx)
                case first =>
                  clear hft
                  by_cases q1 : y.s = x.s
                  · have q1b : (y.s.toList == x.s.toList) = true := by rw [str_eq', q1]; simp
                    by_cases q2 : y.k = x.k
                    · have q2b : (y.k.toList == x.k.toList) = true := by rw [str_eq', q2]; simp
                      have hkp : keepR x y = false := by simp [keepR, q1, q2]
                      clear q1 q2
                      go_quiet (fail)
                      go_wp2_with fail
                      go_meet
                      exact ⟨by rw [hkp], mvDrewN _ _⟩
                    · have q2b : (y.k.toList == x.k.toList) = false := by rw [str_eq', decide_eq_false q2]
                      have hkp : keepR x y = true := by simp [keepR, q2]
                      clear q1 q2
                      go_quiet (fail)
                      go_wp2_with fail
                      go_meet
                      exact ⟨by rw [hkp], mvDrewN _ _⟩
                  · have q1b : (y.s.toList == x.s.toList) = false := by rw [str_eq', decide_eq_false q1]
                    have hkp : keepR x y = true := by simp [keepR, q1]
                    clear q1
                    go_quiet (fail)
                    go_wp2_with fail
                    go_meet
                    exact ⟨by rw [hkp], mvDrewN _ _⟩
                case rest =>
                  obtain ⟨rfl, mD⟩ := hcut
                  have mD2 : Hid (Mv (fun _ => False) U1 wc) := hmLH.out.trans' mD
                  have f0 := mD.cell (fun h => h) d0
                  have f1 := mD.cell (fun h => h) d1
                  have f2 := mD.cell (fun h => h) d2
                  have f3 := mD.cell (fun h => h) d3
                  have hownD := own_mv hownL.out mD (fun _ _ h => h)
                  have hr1 := hownD.alloc (.cells #[.string y.s, .string y.k, .string y.v, .int .i64 y.n] 44)
                  clear d0 d1 d2 d3 e0 e1 mD
                  cases hkp : keepR x y with
                  | false =>
                    rw [hkp] at hft
                    have hftH : Hid ((out.take (j + 1)).filter (keepR x) = left) := by show _ = _; rw [hft]; simp
                    have hoD := hidI6 hownD
                    clear hft hkp hownD hr1
                    go_wp2_with fail
                    exact ⟨⟨j + 1, left, by omega, by go_num, by omega, hidS6 hftH.out, hoD, mD2.out⟩, by simp [intOf]; omega⟩
                  | true =>
                    rw [hkp] at hft
                    have hftH : Hid ((out.take (j + 1)).filter (keepR x) = left ++ [y]) := by show _ = _; rw [hft]; simp
                    clear hft hkp hownD
                    go_wp2_with (at_builtin; refine wpList_append_own_at _ rfl _ _ 23 rfl U1.heap.size 44 i0 _ 4 56 Tryd.underlying23 hinf hz0 hz1 hz2 rfl (by decide) _ _ _ rfl hr1 ⟨_, 0, none⟩ 1 1 (stC y) rfl rfl (fun j u hj => four_new _ _ _ _ _ _ j u hj) (sts_one y) (by unfold maxLen; omega) (by omega) (by have := mD2.out.size; simp; omega) ?_)
                    intro v' w4 hown' hgrow _ _
                    have mg : Mv (fun _ => False) U1 w4 := (mD2.out.trans' (Mv.alloc _ _ _)).grown hgrow (fun k e => .inr (hr1.lt k e).1)
                    go_wp2_with fail
                    exact ⟨⟨j + 1, left ++ [y], by omega, by go_num, by simp; omega, hidS6 hftH.out, hidI6 (by rw [List.length_append, stsC_snoc]; exact hown'), mg⟩, by simp [intOf]; omega⟩
              · obtain rfl : j = r := by omega
                have hjI : ¬ ((j : Int) < (j : Int)) := by omega
                have hnx2 : Hid ((ls.take (k + 1)).foldl stepR ((flatF (fs.take i)).foldl stepR []) = left) := by show _ = _; rw [hnx.out, hleft.out, List.take_of_length_le (by rw [hrH.out]; omega)]
                have hmF : Hid (Mv (fun _ => False) W0 wr) := hmUH.out.trans' hmL
                clear hleft hmL hnx
                go_wp2_with fail
                exact ⟨⟨k + 1, left, by omega, by go_num, hidS6 hnx2.out, hidI6 (own_base hownL.out hmUH.out.size), hmF.out⟩, by simp [intOf]; omega⟩
          · have hvB : (x.v.toList == []) = false := by rw [str_nil]; simp [hv]
            rw [stepR_add hv] at hnx
            have hr1 := hownU.alloc (.cells #[.string x.s, .string x.k, .string x.v, .int .i64 x.n] 44)
            clear hv hownU mU1
            go_wp2_with (first | rw [hU1] | (at_builtin; refine wpList_append_own_at _ rfl _ _ 23 rfl W0.heap.size 44 i0 _ 4 56 Tryd.underlying23 hinf hz0 hz1 hz2 rfl (by decide) _ _ _ rfl hr1 ⟨_, 0, none⟩ 1 1 (stC x) rfl rfl (fun j u hj => four_new _ _ _ _ _ _ j u hj) (sts_one x) (by unfold maxLen; omega) (by omega) (by have := hmUH.out.size; simp; omega) ?_))
            intro v' w4 hown' hgrow _ _
            have mg : Mv (fun _ => False) W0 w4 := (hmUH.out.trans' (Mv.alloc _ _ _)).grown hgrow (fun k e => .inr (hr1.lt k e).1)
            go_wp2_with fail
            exact ⟨⟨k + 1, out ++ [x], by omega, by go_num, hidS6 hnx.out, hidI6 (by rw [List.length_append, stsC_snoc]; exact hown'), mg⟩, by simp [intOf]; omega⟩
        · obtain rfl : k = q := by omega
          have hkI : ¬ ((k : Int) < (k : Int)) := by omega
          have hnx : Hid ((flatF (fs.take (i + 1))).foldl stepR [] = out) := by show _ = _; rw [hftH.out, List.foldl_append, hout.out, show ls.take k = ls from List.take_of_length_le (by rw [hqH.out]; omega)]
          have hmH : Hid (Mv (fun _ => False) W0 wr) := hm
          clear hm hout
          go_wp2_with fail
          exact ⟨⟨i + 1, out, by omega, by go_num, hidS6 hnx.out, hown, hmH.out⟩, by simp [intOf]; omega⟩
    · obtain rfl : i = n := by omega
      have hiI : ¬ ((i : Int) < (i : Int)) := by omega
      have hfin : out = (flatF fs).foldl stepR [] := by rw [hout.out, List.take_of_length_le (by rw [hN.out]; omega)]
      subst hfin
      have k1 := k0.mv hm (fun h => h)
      have y1 := k1.c
      have y2 := k1.f
      obtain ⟨ao, no, co, rfl⟩ := own_shape hown.out
      obtain ⟨W9, hW9⟩ : ∃ W9, wr.setCell ⟨w.heap.size, 0, none⟩ (.slice ao no co) = W9 := ⟨_, rfl⟩
      have ms : Mv (fun k => k = w.heap.size) wr W9 := by rw [← hW9]; exact Mv.set1 (E := fun k => k = w.heap.size) rfl _
      have k9 : Cl w.heap.size (.slice ao no co) W9 := by rw [← hW9]; exact k1.set _
      have y9 := k9.c
      have ho9 := own_mv hown.out ms (fun g hg e => by have h1 := (hown.out.lt g hg).1; have := hsz0.out; omega)
      have hb9 : Below w.heap.size w W9 := ((m0.toBelow (Nat.le_refl _) (fun _ _ h => h)).trans (hm.toBelow m0.size (fun _ _ h => h))).trans (ms.toBelow (by have := m0.size; have := hm.size; omega) (fun k hk e => by omega))
      have hob := own_base ho9 (show w.heap.size ≤ W0.heap.size by have := hsz0.out; omega)
      clear hout hm k1
      go_wp2_with (rw [hW9])
      refine bodyPost_ret (v := .agg #[.slice ao no co]) (by simp [results, Tryd.results13, go_sem, y9]) rfl ?_
      exact ⟨_, rfl, hob, hb9⟩
end Go.Proofs.YtiinhfbfciccnaaDoor
