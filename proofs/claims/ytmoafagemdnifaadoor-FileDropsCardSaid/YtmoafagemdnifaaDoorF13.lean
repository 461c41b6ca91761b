/- The contract of unitfile.All; the row of values under FileDrops's closure. -/
import Derived.Test.YtmoafagemdnifaaDoorF12
import Derived.Test.YtmoafagemdnifaaDoorF10
import Derived.Test.YtmoafagemdnifaaDoorShelfR
namespace Go.Proofs.YtmoafagemdnifaaDoor
open Go.RowKit Go.Shelf
theorem clone_own (base : Nat) (v : Value) (l : List St) (w : World) (h : w.ownsRow base 44 4 v l.length (stsC l)) (hl : l.length ≤ 1000000) :
    Calls Tryd.prog 33 #[v] w fun e w' => ∃ v', e = .returned v' ∧ w'.ownsRow w.heap.size 44 4 v' l.length (stsC l) ∧ Below w.heap.size w w' := by
  obtain ⟨i0, hinf, hz0, hz1, hz2⟩ := info_parts infoSt
  rcases id h.2 with ⟨rfl, h0⟩ | ⟨g, cap, cur, rfl, hb, hh, hn, hc, hz, hx⟩
  · refine (Tryd.slices_Clone_nil 0 0 w).mono ?_
    rintro e w' ⟨rfl, rfl⟩
    have : l = [] := List.length_eq_zero_iff.1 h0
    subst this
    exact ⟨_, rfl, World.ownsRow_nil _ _ _ _, Below.refl _ _⟩
  · refine (Tryd.slices_Clone i0 _ 4 56 hinf hz0 hz1 hz2 rfl (by decide) Tryd.sizeOf44 g 0 l.length cap (stsC l) w (stsC_len l) (by unfold maxLen; omega) (by omega) (fun j u hj => ?_) (fun u hu => ?_)).mono ?_
    · rw [Nat.zero_add]
      have hlt : j < l.length * 4 := by have := (List.getElem?_eq_some_iff.1 hj).1; rwa [stsC_len] at this
      exact (h.cellAt j hlt).trans hj
    · unfold stsC at hu
      obtain ⟨x, _, hxu⟩ := List.mem_flatMap.1 hu
      exact sts_one x u hxu
    · rintro e w' ⟨v', rfl, ho, _, hbw⟩
      exact ⟨v', rfl, ho, hbw⟩
set_option maxHeartbeats 2000000 in
theorem all_own (base : Nat) (v : Value) (l : List St) (sec key : ByteArray) (w : World) (h : w.ownsRow base 44 4 v l.length (stsC l)) (hl : l.length ≤ 1000000) :
    Calls Tryd.prog 16 #[.agg #[v], .string sec, .string key] w fun e w' => ∃ b1 b2 b3 v', e = .returned (.func (.func 44) #[] #[.pointer (some ⟨b1, 0, none⟩), .pointer (some ⟨b2, 0, none⟩), .pointer (some ⟨b3, 0, none⟩)]) ∧ VBox (fun k => k < w.heap.size) w' b1 b2 b3 v' sec key l ∧ Below w.heap.size w w' := by
  obtain ⟨a, n, c, rfl⟩ := own_shape h
  obtain ⟨W0, hW0⟩ : ∃ W0, w.alloc (.cells #[.slice a n c] 25) = W0 := ⟨_, rfl⟩
  have m0 : ∀ F, Mv F w W0 := fun F => by rw [← hW0]; exact Mv.alloc _ _ _
  have hs0 : W0.heap.size = w.heap.size + 1 := by rw [← hW0]; simp
  have hb0 : Below w.heap.size w W0 := (m0 (fun _ => False)).toBelow (Nat.le_refl _) (fun _ _ h => h)
  have q0 : W0.cell? ⟨w.heap.size, 0, none⟩ = some (.slice a n c) := by rw [← hW0]; exact cell_at rfl rfl
  have hcl := clone_own base (.slice a n c) l W0 (own_mv h (m0 (fun _ => False)) (fun _ _ h => h)) hl
  have hs0H : Hid (W0.heap.size = w.heap.size + 1) := hs0
  clear hs0
  go_enter Tryd.func16, Tryd.ntmps16
  go_wp2_with (rw [hW0])
  refine hcl.mono ?_
  rintro e w1 ⟨v', rfl, ho1, hb1⟩
  dsimp only
  obtain ⟨a', n', c', rfl⟩ := own_shape ho1
  have hbw1 : Below w.heap.size w w1 := hb0.trans (hb1.mono (by have := hs0H.out; omega))
  go_wp2_with fail
  refine (values_any a' n' c' sec key w1).mono ?_
  rintro e W2 ⟨rfl, hW2⟩
  dsimp only
  have hsl : SlIs (fun k => k < w.heap.size) w1 (.slice a' n' c') l := own_slis _ (fun k hk _ h => by have := hs0H.out; omega) ho1
  have hvb := vbox_new a' n' c' sec key l w1 (fun k => k < w.heap.size) (fun k hk => by have := hbw1.size; omega) hsl
  rw [← hW2] at hvb
  have hb2 : Below w.heap.size w W2 := by rw [hW2]; exact ((hbw1.alloc hbw1.size _).alloc (by have := hbw1.size; simp; omega) _).alloc (by have := hbw1.size; simp; omega) _
  go_wp2_with fail
  go_ret
  exact ⟨_, _, _, _, rfl, hvb, hb2⟩
/-- The territory of a closure: its own variable, and what is new. -/
def Td (B pa k : Nat) : Prop := k = pa ∨ B ≤ k
set_option maxRecDepth 100000 in
set_option maxHeartbeats 4000000 in
theorem drops1_any (B pa i : Nat) (y : ByteArray) (v : Value) (acc : List ByteArray) (W : World) (hB : B ≤ W.heap.size) (hpa : pa < B) (ca : Cl pa v W) (ho : W.ownsRow B 9 1 v acc.length (acc.map Value.string)) (hal : acc.length ≤ 50) :
    Calls Tryd.prog 23 #[.int .i64 i, .string y, .pointer (some ⟨pa, 0, none⟩)] W fun e W' => e = .returned (.bool true) ∧ ∃ v', Cl pa v' W' ∧ W'.ownsRow B 9 1 v' (acc.length + 1) ((acc ++ [y]).map Value.string) ∧ Mv (Td B pa) W W' := by
  obtain ⟨j0, jinf, jz0, jz1, jz2⟩ := info_parts infoS
  have a0 := ca.c
  have hr1 := ho.alloc (.cells #[.string y] 9)
  go_enter Tryd.func23, Tryd.ntmps23
  go_wp2_with (at_builtin; refine wpList_append_own_at _ rfl _ _ 38 rfl B 9 j0 (.string ⟨#[]⟩) 1 16 Tryd.underlying38 jinf jz0 jz1 jz2 rfl (by decide) _ _ _ rfl hr1 ⟨W.heap.size, 0, none⟩ 1 1 [.string y] rfl rfl (row_news1 W _ _) (fun x hx => by simp at hx; subst hx; rfl) (by unfold maxLen; omega) (by omega) (by simp; omega) ?_)
  intro v' w4 hown' hgrow _ _
  have mg : Mv (fun k => v.ownBlock = some k) W w4 := (Mv.alloc _ _ _).grown hgrow (fun k e => .inl e)
  have nb : ∀ k, k < B → ¬ v.ownBlock = some k := fun k hk e => by have := (ho.lt k e).1; omega
  have c4 := ca.mv mg (nb _ hpa)
  have mset : Mv (fun k => k = pa) w4 (w4.setCell ⟨pa, 0, none⟩ v') := Mv.set1 (E := fun k => k = pa) rfl _
  obtain ⟨w5, hw5⟩ : ∃ w5, w4.setCell ⟨pa, 0, none⟩ v' = w5 := ⟨_, rfl⟩
  have c5 := c4.set v'
  rw [hw5] at c5 mset
  have h4 : ∀ k, v'.ownBlock = some k → B ≤ k := fun k hk => (hown'.lt k hk).1
  have ho5 := own_mv hown' mset (fun g hg e => by have := h4 g hg; omega)
  have m5 : Mv (Td B pa) W w5 := (mg.mono (fun k _ e => .inr (ho.lt k e).1)).trans' (mset.mono (fun k _ e => .inl e))
  obtain ⟨gg, cap', rfl⟩ := ownsRow_succ hown'
  have g0 := c4.c
  have g1 := c4.f
  have g2 := c5.c
  have hlI : ((acc.length : Int) + 1) < 100 := by omega
  go_wp2_with (rw [hw5])
  go_ret
  exact ⟨rfl, _, c5, by simpa using ho5, m5⟩
set_option maxRecDepth 100000 in
set_option maxHeartbeats 4000000 in
theorem valuesD (l : List St) (b1 b2 b3 pa : Nat) (v : Value) (sec key : ByteArray) (W0 : World) (hpa : pa < W0.heap.size) (hb : VBox (fun k => k = pa) W0 b1 b2 b3 v sec key l) (ca : Cl pa (.slice none 0 0) W0) (hl : l.length ≤ 45) (H : List ByteArray) (hH : (hits sec key 0 l).map Prod.snd = H) :
    Calls Tryd.prog 44 #[.func (.func 23) #[] #[.pointer (some ⟨pa, 0, none⟩)], .pointer (some ⟨b1, 0, none⟩), .pointer (some ⟨b2, 0, none⟩), .pointer (some ⟨b3, 0, none⟩)] W0 fun e W' => e = .returned (.tuple #[]) ∧ ∃ v', Cl pa v' W' ∧ W'.ownsRow W0.heap.size 9 1 v' H.length (H.map Value.string) ∧ Mv (Td W0.heap.size pa) W0 W' := by
  have hTd : ∀ k, k ≠ pa → k < W0.heap.size → ¬ Td W0.heap.size pa k := fun k h1 h2 h => by rcases h with h | h <;> omega
  have d1 := hb.c1
  have d2 := hb.c2
  have d3 := hb.c3
  have f2 : ¬ Td W0.heap.size pa b2 := hTd _ hb.e2 (cell_lt d2)
  have f3 : ¬ Td W0.heap.size pa b3 := hTd _ hb.e3 (cell_lt d3)
  obtain ⟨a, cap, rfl, hs1⟩ := id hb.sl
  obtain ⟨n, hn⟩ : ∃ n, l.length = n := ⟨_, rfl⟩
  rw [hn] at d1 hs1 hl
  have hN : Hid (l.length = n) := hn
  have hHH : Hid ((hits sec key 0 l).map Prod.snd = H) := hH
  clear hH
  have caH : Hid (Cl pa (.slice none 0 0) W0) := ca
  clear hn hb ca
  go_enter Tryd.func44, Tryd.ntmps44
  go_wp2_with fail
  go_loopw [9] (fun i wr => ∃ (k : Nat) (gv : Value) (acc : List ByteArray), k ≤ n ∧ i = .int .i64 k ∧ acc.length ≤ k ∧ Hid (H = acc ++ (hits sec key k (l.drop k)).map Prod.snd) ∧ Cl pa gv wr ∧ Hid (wr.ownsRow W0.heap.size 9 1 gv acc.length (acc.map Value.string)) ∧ Mv (Td W0.heap.size pa) W0 wr) (fun i _ => n - (intOf i).toNat)
  case atStart => exact ⟨0, _, [], by omega, rfl, by simp, by show _ = _; rw [List.drop_zero]; exact hHH.out.symm, caH.out, World.ownsRow_nil _ _ _ _, Mv.refl _ _⟩
  case round =>
    obtain ⟨k, gv, acc, hk, rfl, hal, hacc, hcl, ho, hm⟩ := hrel
    by_cases hlt : k < n
    · obtain ⟨gb, o, rfl, hgb, hst⟩ := hs1 (by omega)
      obtain ⟨x, hx⟩ : ∃ x, l[k]? = some x := ⟨_, List.getElem?_eq_getElem (by rw [hN.out]; exact hlt)⟩
      rw [dropS hx] at hacc
      have hgl : gb < W0.heap.size := cell_lt (hst k x hx).c0
      obtain ⟨p0, p1, p2, p3⟩ := (hst k x hx).mv hm (hTd _ hgb hgl)
      have c2 := hm.cell f2 d2
      have c3 := hm.cell f3 d3
      have hkI : (k : Int) < (n : Int) := by omega
      have hms := hm.size
      obtain ⟨U1, hU1⟩ : ∃ U1, wr.alloc (.cells #[.string x.s, .string x.k, .string x.v, .int .i64 x.n] 44) = U1 := ⟨_, rfl⟩
      have mU1 : ∀ F, Mv F wr U1 := fun F => by rw [← hU1]; exact Mv.alloc _ _ _
      have x0 : U1.cell? ⟨wr.heap.size, 0, none⟩ = some (.string x.s) := by rw [← hU1]; exact cell_at rfl rfl
      have x1 : U1.cell? ⟨wr.heap.size, 1, none⟩ = some (.string x.k) := by rw [← hU1]; exact cell_at rfl rfl
      have x2 : U1.cell? ⟨wr.heap.size, 2, none⟩ = some (.string x.v) := by rw [← hU1]; exact cell_at rfl rfl
      have y2 := (mU1 (fun _ => False)).cell (fun h => h) c2
      have y3 := (mU1 (fun _ => False)).cell (fun h => h) c3
      have hmU := hm.trans' (mU1 _)
      have hclU := hcl.mv (mU1 (fun _ => False)) (fun h => h)
      have hoU := own_mv ho.out (mU1 (fun _ => False)) (fun _ _ h => h)
      have hoUH : Hid (U1.ownsRow W0.heap.size 9 1 gv acc.length (acc.map Value.string)) := hoU
      clear hst hx hs1 hoU
      by_cases e1 : x.s = sec
      · have e1b : (x.s.toList == sec.toList) = true := by rw [str_eq', e1]; simp
        by_cases e2 : x.k = key
        · have e2b : (x.k.toList == key.toList) = true := by rw [str_eq', e2]; simp
          rw [hits_yes e1 e2] at hacc
          have hacc2 : Hid (H = (acc ++ [x.v]) ++ (hits sec key (k + 1) (l.drop (k + 1))).map Prod.snd) := by show _ = _; rw [hacc.out]; simp
          have hcall := drops1_any W0.heap.size pa k x.v gv acc U1 (by have := (mU1 (fun _ => False)).size; omega) hpa hclU hoUH.out (by omega)
          have hcallH : Hid (Calls Tryd.prog 23 #[.int .i64 k, .string x.v, .pointer (some ⟨pa, 0, none⟩)] U1 fun e W' => e = .returned (.bool true) ∧ ∃ v', Cl pa v' W' ∧ W'.ownsRow W0.heap.size 9 1 v' (acc.length + 1) ((acc ++ [x.v]).map Value.string) ∧ Mv (Td W0.heap.size pa) U1 W') := hcall
          clear e1 e2 hcall hacc
          go_wp2_with (first | rw [hU1] | (go_at_call 23; refine hcallH.out.mono ?_; rintro e w' ⟨rfl, v', hca, hown, hmv⟩))
          exact ⟨⟨k + 1, v', acc ++ [x.v], by omega, by go_num, by simp; omega, hacc2, hca, by rw [List.length_append]; exact hown, hmU.trans' hmv⟩, by simp [intOf]; omega⟩
        · have e2b : (x.k.toList == key.toList) = false := by rw [str_eq', decide_eq_false e2]
          rw [hits_no (fun h => e2 h.2)] at hacc
          clear e1 e2
          go_wp2_with (rw [hU1])
          exact ⟨⟨k + 1, gv, acc, by omega, by go_num, by omega, hacc, hclU, hoUH, hmU⟩, by simp [intOf]; omega⟩
      · have e1b : (x.s.toList == sec.toList) = false := by rw [str_eq', decide_eq_false e1]
        rw [hits_no (fun h => e1 h.1)] at hacc
        clear e1
        go_wp2_with (rw [hU1])
        exact ⟨⟨k + 1, gv, acc, by omega, by go_num, by omega, hacc, hclU, hoUH, hmU⟩, by simp [intOf]; omega⟩
    · obtain rfl : k = n := by omega
      have hkI : ¬ ((k : Int) < (k : Int)) := by omega
      have hfin : Hid (acc = H) := by
        have := hacc.out
        rw [List.drop_of_length_le (by rw [hN.out]; omega)] at this
        show _ = _
        rw [this]; simp [hits]
      go_wp2_with fail
      refine bodyPost_end (v := .tuple #[]) (by simp [results, Tryd.results44, go_sem]) rfl ?_
      exact ⟨rfl, gv, hcl, by rw [← hfin.out]; exact ho.out, hm⟩
end Go.Proofs.YtmoafagemdnifaaDoor
