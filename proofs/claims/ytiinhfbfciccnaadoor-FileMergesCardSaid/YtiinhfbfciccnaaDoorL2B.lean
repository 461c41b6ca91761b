/- The walk of FileBack. -/
import Derived.Test.YtiinhfbfciccnaaDoorYH
import Derived.Deep.RegionHeld3
import Derived.Deep.CutRange
namespace Go.Proofs.YtiinhfbfciccnaaDoor
open Go.RowKit Go.Shelf Lin
theorem count_take {l : List St} {q c : Nat} {x y : St} (hx : l[q]? = some x) (h : (l.take q).countP (sameT y) = c) : (l.take (q + 1)).countP (sameT y) = if sameT y x then c + 1 else c := by
  rw [take_snocS hx, List.countP_append, h]
  cases hs : sameT y x <;> simp [hs]
theorem str_eq (a b : ByteArray) : (a.toList == b.toList) = decide (a = b) := by
  rw [Lib.toList_data, Lib.toList_data]
  by_cases h : a = b
  · rw [h]; simp
  · rw [decide_eq_false h]
    have : a.data.toList ≠ b.data.toList := fun e => h (by rw [← Lib.mk_data a, e, Lib.mk_data])
    simpa using this
/-- Where a setting differs, or not at all. -/
theorem same_cases (y x : St) : (sameT y x = false ∧ (x.s.toList == y.s.toList) = false) ∨ (sameT y x = false ∧ (x.s.toList == y.s.toList) = true ∧ (x.k.toList == y.k.toList) = false) ∨ (sameT y x = false ∧ (x.s.toList == y.s.toList) = true ∧ (x.k.toList == y.k.toList) = true ∧ (x.v.toList == y.v.toList) = false) ∨ (sameT y x = true ∧ (x.s.toList == y.s.toList) = true ∧ (x.k.toList == y.k.toList) = true ∧ (x.v.toList == y.v.toList) = true) := by
  rw [str_eq, str_eq, str_eq]
  unfold sameT
  by_cases h1 : x.s = y.s
  · by_cases h2 : x.k = y.k
    · by_cases h3 : x.v = y.v
      · simp [h1, h2, h3]
      · simp [h1, h2, h3]
    · simp [h1, h2]
  · simp [h1]
theorem mvDrewN {E : Nat → Prop} (W : World) (n : Nat) : Mv E W (W.drewN n) := ⟨rfl, rfl, rfl, Nat.le_refl _, fun _ _ _ => rfl⟩
theorem Mv.drewR {E : Nat → Prop} {A W : World} (h : Mv E A W) : Mv E A W.drew := h.trans' (Mv.drew _ _)
theorem Mv.allocR {E : Nat → Prop} {A W : World} (h : Mv E A W) (o : Obj) : Mv E A (W.alloc o) := h.trans' (Mv.alloc _ _ _)
set_option maxRecDepth 100000 in
set_option maxHeartbeats 16000000 in
theorem back_walk (s : ByteArray) (w : World) (hg : Mx w) : Calls Tryd.prog 5 #[.string s] w fun e w' => e = .returned (.bool true) ∧ Below w.heap.size w w' := by
  go_enter Tryd.func5, Tryd.ntmps5
  go_wp2_with fail
  refine (known_any w hg).mono ?_
  rintro e w1 ⟨rfl, hb1⟩
  by_cases hz : 3000 < s.size
  · have hzI : (3000 : Int) < (s.size : Int) := by omega
    go_wp2_with fail
    go_ret
    exact ⟨rfl, hb1⟩
  · have hzI : decide ((3000 : Int) < (s.size : Int)) = false := by simp; omega
    have hzJ : ¬ (3000 : Int) < (s.size : Int) := by omega
    have hp1 := fparse_any s w1 (hg.below hb1)
    have hfl0 := fun f (h : fil s.data.toList = .ok f) => fil_len2 h
    rw [size_list] at hfl0
    cases hR : fil s.data.toList with
    | error e =>
      obtain ⟨n, k⟩ := e
      rw [hR] at hp1
      have hk : k ≠ 0 := by
        unfold fil at hR
        cases hl : lns s.data.toList with
        | error e => rw [hl] at hR; cases hR; exact lns_err _ _ _ hl
        | ok l =>
          rw [hl] at hR
          unfold filL at hR
          simp only at hR
          cases hp : pf ⟨#[]⟩ [] l with
          | error n => rw [hp] at hR; cases hR; decide
          | ok a => rw [hp] at hR; cases hR
      have hkI : (k != 0) = true := by simpa using hk
      have hkJ : (k == 0) = false := by simpa using hk
      have hp1H : Hid (Calls Tryd.prog 8 #[.string s] w1 fun e w' => e = .returned (.tuple #[.agg #[.slice none 0 0], .int .i64 n, .int .i64 k]) ∧ Below w1.heap.size w1 w') := hp1
      clear hp1 hR hfl0
      go_wp2_with fail
      refine hp1H.out.mono ?_
      rintro e w2 ⟨rfl, hb2⟩
      dsimp only
      have hbw2 : Below w.heap.size w w2 := hb1.trans (hb2.mono hb1.size)
      obtain ⟨W2, hW2⟩ : ∃ W2, w2.alloc (.cells #[.slice none 0 0] 25) = W2 := ⟨_, rfl⟩
      have k2 : Cl w2.heap.size (.slice none 0 0) W2 := by rw [← hW2]; exact ⟨cell_at rfl rfl, World.frozen?_alloc_new _ _ _ _⟩
      have y1 := k2.c
      have y2 := k2.f
      obtain ⟨W3, hW3⟩ : ∃ W3, W2.setCell ⟨w2.heap.size, 0, none⟩ (.slice none 0 0) = W3 := ⟨_, rfl⟩
      have k3 : Cl w2.heap.size (.slice none 0 0) W3 := by rw [← hW3]; exact k2.set _
      have y3 := k3.c
      have hb3 : Below w.heap.size w W3 := by rw [← hW3, ← hW2]; exact (hbw2.alloc hbw2.size _).setCell (p := ⟨w2.heap.size, 0, none⟩) hbw2.size _
      go_wp2_with (first | rw [hW2] | rw [hW3])
      go_ret
      exact ⟨rfl, hb3⟩
    | ok f =>
      rw [hR] at hp1
      have hfl := hfl0 f hR
      have hfs := trip_size hR
      obtain ⟨n, hn⟩ : ∃ n, f.length = n := ⟨_, rfl⟩
      have hN : Hid (f.length = n) := hn
      have hp1H : Hid (Calls Tryd.prog 8 #[.string s] w1 fun e w' => ∃ v, e = .returned (.tuple #[.agg #[v], .int .i64 0, .int .i64 0]) ∧ w'.ownsRow w1.heap.size 44 4 v f.length (stsC f) ∧ Below w1.heap.size w1 w') := hp1
      have hRH : Hid (fil s.data.toList = .ok f) := hR
      have hn5 : n ≤ 3002 := by omega
      clear hp1 hR hfl0 hfl
      go_wp2_with fail
      refine hp1H.out.mono ?_
      rintro e w2 ⟨v1, rfl, ho1, hb2⟩
      dsimp only
      obtain ⟨a1, m1, c1, rfl⟩ := own_slice ho1
      obtain rfl := own_len ho1
      rw [hn] at ho1 ⊢
      obtain ⟨W2, hW2⟩ : ∃ W2, w2.alloc (.cells #[.slice a1 n c1] 25) = W2 := ⟨_, rfl⟩
      have mW2 : Mv (fun _ => False) w2 W2 := by rw [← hW2]; exact Mv.alloc _ _ _
      have q1 : W2.cell? ⟨w2.heap.size, 0, none⟩ = some (.slice a1 n c1) := by rw [← hW2]; exact cell_at rfl rfl
      have hbW2 : Below w.heap.size w W2 := (hb1.trans (hb2.mono hb1.size)).trans (mW2.toBelow (by have := hb1.size; have := hb2.size; omega) (fun _ _ h => h))
      have hs1H : Hid (SlIs (fun _ => False) W2 (.slice a1 n c1) f) := (own_sl _ (fun _ _ h => h) (by rw [hn]; exact ho1)).mv mW2 (Gr.refl _ _)
      have hf2 : w2.heap.size < W2.heap.size := cell_lt q1
      clear ho1 hp1H hn
      go_wp2_with (rw [hW2])
      go_loop [6] (fun i => ∃ k : Nat, k ≤ n ∧ i = .int .i64 k ∧ Hid (∀ x ∈ f.take k, OkV x)) (fun i => n - (intOf i).toNat)
      case atStart => exact ⟨0, by omega, rfl, fun x hx => by simp at hx⟩
      case round =>
        obtain ⟨k, hk, rfl, hok⟩ := hrel
        by_cases hlt : k < n
        · obtain ⟨x, hx⟩ : ∃ x, f[k]? = some x := ⟨_, List.getElem?_eq_getElem (by rw [hN.out]; exact hlt)⟩
          obtain ⟨a', c', hv', hst⟩ := hs1H.out
          simp only [Value.slice.injEq] at hv'
          obtain ⟨rfl, -, rfl⟩ := hv'
          obtain ⟨g, o, rfl, -, hst2⟩ := hst (by rw [hN.out]; omega)
          obtain ⟨p0, p1, p2, p3⟩ := hst2 k x hx
          have hts := take_snocS hx
          have hxm := List.mem_of_getElem? hx
          have hkI : (k : Int) < (n : Int) := by omega
          have hxs : x.v.size ≤ 400 ∧ x.k.size ≤ 400 := by
            have h1 := (fil_good hRH.out x hxm).2.1.2
            have h2 := (fil_good hRH.out x hxm).2.2.len
            rw [size_list] at h1 h2
            exact ⟨h2, h1⟩
          clear hst hst2 hx
          by_cases h4 : 400 ≤ x.v.size + x.k.size
          · have h4I : (400 : Int) ≤ (x.v.size : Int) + (x.k.size : Int) := by omega
            go_wp2_with fail
            go_ret
            exact ⟨rfl, hbW2⟩
          · have h4I : decide ((400 : Int) ≤ (x.v.size : Int) + (x.k.size : Int)) = false := by simp; omega
            by_cases h0 : x.v.size = 0
            · have h0I : decide ((0 : Int) < (x.v.size : Int)) = false := decide_eq_false (by omega)
              have hok2 : Hid (∀ y ∈ f.take (k + 1), OkV y) := fun y hy => by
                rw [hts] at hy
                rcases List.mem_append.1 hy with hy | hy
                · exact hok.out y hy
                · simp at hy; subst hy
                  refine ⟨by omega, fun a c e => ?_⟩
                  have := congrArg List.length e
                  rw [size_list, h0] at this; simp at this
              clear hts
              go_wp2_with fail
              exact ⟨⟨k + 1, by omega, by go_num, hok2⟩, by simp [intOf]; omega⟩
            · have h0I : (0 : Int) < (x.v.size : Int) := by omega
              obtain ⟨N, hN1⟩ : ∃ N, x.v.size = N + 1 := ⟨x.v.size - 1, by omega⟩
              have hNI : (x.v.size : Int) = (N : Int) + 1 := by omega
              have hNl : N < x.v.size := by omega
              obtain ⟨c, hc⟩ : ∃ c, x.v[N] = c := ⟨_, rfl⟩
              have hcl : Hid (∃ a, x.v.data.toList = a ++ [c]) := by
                have h1 := get_list x.v N hNl
                rw [hc] at h1
                refine ⟨x.v.data.toList.take N, ?_⟩
                have h2 : x.v.data.toList.take (N + 1) = x.v.data.toList := List.take_of_length_le (by rw [size_list]; omega)
                exact h2.symm.trans (by rw [List.take_add_one, h1]; rfl)
              by_cases h92 : c = 92
              · have hcI : ((c.toNat : Int) == 92) = true := by rw [h92]; rfl
                clear hts
                go_wp2_with fail
                go_ret
                exact ⟨rfl, hbW2⟩
              · have hcI : ((c.toNat : Int) == 92) = false := beq8 c 92 h92
                have hok2 : Hid (∀ y ∈ f.take (k + 1), OkV y) := fun y hy => by
                  rw [hts] at hy
                  rcases List.mem_append.1 hy with hy | hy
                  · exact hok.out y hy
                  · simp at hy; subst hy
                    refine ⟨by omega, fun a d e => ?_⟩
                    obtain ⟨a', ha'⟩ := hcl.out
                    rw [ha'] at e
                    have := (List.append_inj' e rfl).2
                    simp at this; rw [← this]; exact h92
                clear hts
                go_wp2_with fail
                exact ⟨⟨k + 1, by omega, by go_num, hok2⟩, by simp [intOf]; omega⟩
        · obtain rfl : k = n := by omega
          have hokA : Hid (∀ x ∈ f, OkV x) := by
            have := hok.out
            rwa [List.take_of_length_le (by rw [hN.out]; omega)] at this
          have hkI : ¬ ((k : Int) < (k : Int)) := by omega
          obtain ⟨T, hT⟩ : ∃ T, prt (groups f) = T := ⟨_, rfl⟩
          have hTb : T.length ≤ 3000000 := by
            have := groups_bound hfs (fun x hx => (hokA.out x hx).1)
            rw [hT, hN.out] at this; omega
          have hpr := print_any (.slice a1 k c1) f W2 T hs1H.out (by rw [hN.out]; omega) (fun x hx => by have := hfs x hx; omega) hT hTb
          have hprH : Hid (Calls Tryd.prog 14 #[.agg #[.slice a1 k c1]] W2 fun e w' => e = .returned (.string ⟨T.toArray⟩) ∧ Below W2.heap.size W2 w') := hpr
          clear hpr hok
          go_wp2_with fail
          refine hprH.out.mono ?_
          rintro e w3 ⟨rfl, hb3⟩
          dsimp only
          obtain ⟨S, rfl, hSz, hSe⟩ := letters T
          rw [hSe]
          clear hSe
          have hSb : S.size ≤ 3000000 := by rw [hSz]; exact hTb
          have hSzH : Hid (S.size = S.data.toList.length) := hSz
          have hTbH : Hid (S.data.toList.length ≤ 3000000) := hTb
          have hTH : Hid (prt (groups f) = S.data.toList) := hT
          clear hSz hTb hT
          have hbw3 : Below w.heap.size w w3 := hbW2.trans (hb3.mono hbW2.size)
          by_cases hT4 : 4000 < S.size
          · have hT4I : (4000 : Int) < (S.size : Int) := by omega
            go_wp2_with fail
            go_ret
            exact ⟨rfl, hbw3⟩
          · have hT4I : decide ((4000 : Int) < (S.size : Int)) = false := decide_eq_false (by omega)
            obtain ⟨g, hg1, hg2, hg3, hg4⟩ := back_plain hRH.out hokA.out (by rw [hTH.out, ← hSzH.out]; omega)
            rw [hTH.out] at hg1 hg3
            have hp2 := fparse_any S w3 (hg.below hbw3)
            rw [hg1] at hp2
            have hp2H : Hid (Calls Tryd.prog 8 #[.string S] w3 fun e w' => ∃ v, e = .returned (.tuple #[.agg #[v], .int .i64 0, .int .i64 0]) ∧ w'.ownsRow w3.heap.size 44 4 v g.length (stsC g) ∧ Below w3.heap.size w3 w') := hp2
            have hgs := trip_size hg1
            rw [hN.out] at hg2
            have hG : Hid (g.length = k) := hg2
            have hg4H : Hid (∀ y, g.countP (sameT y) = f.countP (sameT y)) := hg4
            clear hp2 hg4 hg1 hprH
            go_wp2_with fail
            refine hp2H.out.mono ?_
            rintro e w4 ⟨v2, rfl, ho2, hb4⟩
            dsimp only
            obtain ⟨a2, m2, c2, rfl⟩ := own_slice ho2
            obtain rfl := own_len ho2
            rw [hG.out] at ho2 ⊢
            obtain ⟨W4, hW4⟩ : ∃ W4, w4.alloc (.cells #[.slice a2 k c2] 25) = W4 := ⟨_, rfl⟩
            have mW4 : Mv (fun _ => False) w4 W4 := by rw [← hW4]; exact Mv.alloc _ _ _
            have m34 : Mv (fun _ => False) W2 w4 := (Mv.below hb3).trans' (Mv.below hb4)
            have q2 : W4.cell? ⟨w4.heap.size, 0, none⟩ = some (.slice a2 k c2) := by rw [← hW4]; exact cell_at rfl rfl
            have q1' := mW4.cell (fun h => h) (m34.cell (fun h => h) q1)
            have hbW4 : Below w.heap.size w W4 := (hbw3.trans (hb4.mono hbw3.size)).trans (mW4.toBelow (by have := hbw3.size; have := hb4.size; omega) (fun _ _ h => h))
            have hsfH : Hid (SlIs (fun _ => False) W4 (.slice a1 k c1) f) := (hs1H.out.mv m34 (Gr.refl _ _)).mv mW4 (Gr.refl _ _)
            have hsgH : Hid (SlIs (fun _ => False) W4 (.slice a2 k c2) g) := (own_sl _ (fun _ _ h => h) (by rw [hG.out]; exact ho2)).mv mW4 (Gr.refl _ _)
            have hpr2 := print_any (.slice a2 k c2) g W4 S.data.toList hsgH.out (by rw [hG.out]; omega) (fun x hx => by have := hgs x hx; omega) hg3 hTbH.out
            rw [Lib.mk_data] at hpr2
            have hpr2H : Hid (Calls Tryd.prog 14 #[.agg #[.slice a2 k c2]] W4 fun e w' => e = .returned (.string S) ∧ Below W4.heap.size W4 w') := hpr2
            have hf4 : w2.heap.size < W4.heap.size := cell_lt q1'
            have hg5 : w4.heap.size < W4.heap.size := cell_lt q2
            clear ho2 hp2H hpr2 hs1H
            go_wp2_with (rw [hW4])
            refine hpr2H.out.mono ?_
            rintro e w5 ⟨rfl, hb5⟩
            dsimp only
            have m5 : Mv (fun _ => False) W4 w5 := Mv.below hb5
            have r1 := m5.cell (fun h => h) q1'
            have r2 := m5.cell (fun h => h) q2
            have hsf5 : Hid (SlIs (fun _ => False) w5 (.slice a1 k c1) f) := hsfH.out.mv m5 (Gr.refl _ _)
            have hsg5 : Hid (SlIs (fun _ => False) w5 (.slice a2 k c2) g) := hsgH.out.mv m5 (Gr.refl _ _)
            have hb5w : Below w.heap.size w w5 := hbW4.trans (hb5.mono hbW4.size)
            clear hpr2H hsfH hsgH q1 q2 q1' hW2 hW4 hRH hokA hg3
            go_wp2_with fail
            go_loopw [11] (fun i wr => ∃ p : Nat, p ≤ k ∧ i = .int .i64 p ∧ Mv (fun _ => False) w5 wr) (fun i _ => k - (intOf i).toNat)
            case atStart => exact ⟨0, by omega, rfl, Mv.refl _ _⟩
            case round =>
              obtain ⟨p, hp, rfl, mr⟩ := hrel
              have t1 := mr.cell (fun h => h) r1
              have t2 := mr.cell (fun h => h) r2
              by_cases hplt : p < k
              · have hpI : (p : Int) < (k : Int) := by omega
                obtain ⟨y, hy⟩ : ∃ y, f[p]? = some y := ⟨_, List.getElem?_eq_getElem (by rw [hN.out]; exact hplt)⟩
                have hyH : Hid (f[p]? = some y) := hy
                clear hy
                go_wp2_with fail
                go_loopw [12, 13, 14] (fun cn cm i wq => ∃ q cf cg : Nat, q ≤ k ∧ i = .int .i64 q ∧ cn = .int .i64 cf ∧ cm = .int .i64 cg ∧ cf ≤ q ∧ cg ≤ q ∧ Hid ((f.take q).countP (sameT y) = cf) ∧ Hid ((g.take q).countP (sameT y) = cg) ∧ Mv (fun _ => False) w5 wq) (fun _ _ i _ => k - (intOf i).toNat)
                case atStart => exact ⟨0, 0, 0, by omega, rfl, rfl, rfl, Nat.le_refl _, Nat.le_refl _, rfl, rfl, mr⟩
                case round =>
                  obtain ⟨q, cf, cg, hq, rfl, rfl, rfl, hcf1, hcg1, hcf, hcg, mq⟩ := hrel
                  have u1 := mq.cell (fun h => h) r1
                  have u2 := mq.cell (fun h => h) r2
                  by_cases hqlt : q < k
                  · have hqI : (q : Int) < (k : Int) := by omega
                    obtain ⟨x, hx⟩ : ∃ x, f[q]? = some x := ⟨_, List.getElem?_eq_getElem (by rw [hN.out]; exact hqlt)⟩
                    obtain ⟨z, hz2⟩ : ∃ z, g[q]? = some z := ⟨_, List.getElem?_eq_getElem (by rw [hG.out]; exact hqlt)⟩
                    obtain ⟨b1, d1, e1, s1⟩ := hsf5.out
                    simp only [Value.slice.injEq] at e1
                    obtain ⟨rfl, -, rfl⟩ := e1
                    obtain ⟨gf, of, rfl, -, hsf⟩ := s1 (by rw [hN.out]; omega)
                    obtain ⟨b2, d2, e2, s2⟩ := hsg5.out
                    simp only [Value.slice.injEq] at e2
                    obtain ⟨rfl, -, rfl⟩ := e2
                    obtain ⟨gg, og, rfl, -, hsg⟩ := s2 (by rw [hG.out]; omega)
                    obtain ⟨x0, x1, x2, x3⟩ := (hsf q x hx).mv mq (fun h => h)
                    obtain ⟨z0, z1, z2, z3⟩ := (hsg q z hz2).mv mq (fun h => h)
                    obtain ⟨y0, y1, y2, y3⟩ := (hsf p y hyH.out).mv mq (fun h => h)
                    have hcf2 := count_take (y := y) hx hcf.out
                    have hcg2 := count_take (y := y) hz2 hcg.out
                    clear s1 s2 hsf hsg hx hz2
                    have l1 : w2.heap.size < wr.heap.size := cell_lt u1
                    have l2 : w4.heap.size < wr.heap.size := cell_lt u2
                    have l3 : gf < wr.heap.size := cell_lt x0
                    have l4 : gg < wr.heap.size := cell_lt z0
                    have hall : ∀ w', Mv (fun b => wr.heap.size ≤ b) wr w' → (w'.cell? ⟨w2.heap.size, 0, none⟩ = some (.slice (some ⟨gf, of, none⟩) k c1) ∧ w'.cell? ⟨w4.heap.size, 0, none⟩ = some (.slice (some ⟨gg, og, none⟩) k c2) ∧ (w'.cell? ⟨gf, of + q * 4, none⟩ = some (.string x.s) ∧ w'.cell? ⟨gf, of + q * 4 + 1, none⟩ = some (.string x.k) ∧ w'.cell? ⟨gf, of + q * 4 + 2, none⟩ = some (.string x.v) ∧ w'.cell? ⟨gf, of + q * 4 + 3, none⟩ = some (.int .i64 x.n)) ∧ (w'.cell? ⟨gg, og + q * 4, none⟩ = some (.string z.s) ∧ w'.cell? ⟨gg, og + q * 4 + 1, none⟩ = some (.string z.k) ∧ w'.cell? ⟨gg, og + q * 4 + 2, none⟩ = some (.string z.v) ∧ w'.cell? ⟨gg, og + q * 4 + 3, none⟩ = some (.int .i64 z.n))) ∧ Hid (Mv (fun b => wr.heap.size ≤ b) wr w') := fun w' m =>
                      have n1 : ¬ wr.heap.size ≤ w2.heap.size := by omega
                      have n2 : ¬ wr.heap.size ≤ w4.heap.size := by omega
                      have n3 : ¬ wr.heap.size ≤ gf := by omega
                      have n4 : ¬ wr.heap.size ≤ gg := by omega
                      ⟨⟨m.cell n1 u1, m.cell n2 u2, ⟨m.cell n3 x0, m.cell n3 x1, m.cell n3 x2, m.cell n3 x3⟩, ⟨m.cell n4 z0, m.cell n4 z1, m.cell n4 z2, m.cell n4 z3⟩⟩, m⟩
                    go_upto_region 27 with fail
                    go_cut [15, 16] from 106 to 188 (fun pa pb wx => ∃ A B : Nat, pa = .pointer (some ⟨A, 0, none⟩) ∧ pb = .pointer (some ⟨B, 0, none⟩) ∧ St1 wx A 0 x ∧ St1 wx B 0 z ∧ Mv (fun _ => False) wr wx)
                    case first =>
                      go_region_held3 (fun w' => (w'.cell? ⟨w2.heap.size, 0, none⟩ = some (.slice (some ⟨gf, of, none⟩) k c1) ∧ w'.cell? ⟨w4.heap.size, 0, none⟩ = some (.slice (some ⟨gg, og, none⟩) k c2) ∧ (w'.cell? ⟨gf, of + q * 4, none⟩ = some (.string x.s) ∧ w'.cell? ⟨gf, of + q * 4 + 1, none⟩ = some (.string x.k) ∧ w'.cell? ⟨gf, of + q * 4 + 2, none⟩ = some (.string x.v) ∧ w'.cell? ⟨gf, of + q * 4 + 3, none⟩ = some (.int .i64 x.n)) ∧ (w'.cell? ⟨gg, og + q * 4, none⟩ = some (.string z.s) ∧ w'.cell? ⟨gg, og + q * 4 + 1, none⟩ = some (.string z.k) ∧ w'.cell? ⟨gg, og + q * 4 + 2, none⟩ = some (.string z.v) ∧ w'.cell? ⟨gg, og + q * 4 + 3, none⟩ = some (.int .i64 z.n))) ∧ Hid (Mv (fun b => wr.heap.size ≤ b) wr w'))
                        ((refine hall _ ?_; repeat (first | exact Mv.refl _ _ | refine Mv.drewR ?_ | refine Mv.allocR ?_ _ | refine Mv.setc ?_ (.inr (by first | exact Nat.le_refl _ | exact Nat.le_succ _ | (simp; done))) _)))
                        (fail)
                      · go_wp2_with fail
                        go_meet
                        exact ⟨_, _, rfl, rfl, St1.mv (W := wr.alloc (.cells #[.string x.s, .string x.k, .string x.v, .int .i64 x.n] 44)) ⟨cell_at rfl rfl, cell_at rfl rfl, cell_at rfl rfl, cell_at rfl rfl⟩ ((Mv.alloc (fun _ => False) _ _).trans' (Mv.drew _ _)) (fun h => h), St1.mv (W := (wr.alloc (.cells #[.string x.s, .string x.k, .string x.v, .int .i64 x.n] 44)).alloc (.cells #[.string z.s, .string z.k, .string z.v, .int .i64 z.n] 44)) ⟨cell_at (by simp) rfl, cell_at (by simp) rfl, cell_at (by simp) rfl, cell_at (by simp) rfl⟩ (Mv.drew (fun _ => False) _) (fun h => h), ((Mv.alloc _ _ _).trans' (Mv.alloc _ _ _)).trans' (Mv.drew _ _)⟩
                      · go_wp2_with fail
                        go_meet
                        exact ⟨_, _, rfl, rfl, St1.mv (W := (wr.alloc (.cells #[.string z.s, .string z.k, .string z.v, .int .i64 z.n] 44)).alloc (.cells #[.string x.s, .string x.k, .string x.v, .int .i64 x.n] 44)) ⟨cell_at (by simp) rfl, cell_at (by simp) rfl, cell_at (by simp) rfl, cell_at (by simp) rfl⟩ (Mv.drew (fun _ => False) _) (fun h => h), St1.mv (W := wr.alloc (.cells #[.string z.s, .string z.k, .string z.v, .int .i64 z.n] 44)) ⟨cell_at rfl rfl, cell_at rfl rfl, cell_at rfl rfl, cell_at rfl rfl⟩ ((Mv.alloc (fun _ => False) _ _).trans' (Mv.drew _ _)) (fun h => h), ((Mv.alloc _ _ _).trans' (Mv.alloc _ _ _)).trans' (Mv.drew _ _)⟩
                    case rest =>
                      clear hall
                      obtain ⟨A, B, rfl, rfl, hA, hB, mD⟩ := hcut
                      have v1 := mD.cell (fun h => h) u1
                      have ya0 := mD.cell (fun h => h) y0
                      have ya1 := mD.cell (fun h => h) y1
                      have ya2 := mD.cell (fun h => h) y2
                      obtain ⟨xa0, xa1, xa2, xa3⟩ := id hA
                      go_upto_region 28 with fail
                      go_cut [153] from 106 to 188 (fun c wx => c = .bool (sameT y x) ∧ St1 wx A 0 x ∧ St1 wx B 0 z ∧ Mv (fun _ => False) wr wx)
                      case first =>
                        rcases same_cases y x with ⟨hsx, hx1⟩ | ⟨hsx, hx1, hx2⟩ | ⟨hsx, hx1, hx2, hx3⟩ | ⟨hsx, hx1, hx2, hx3⟩
                        all_goals
                          go_quiet (fail)
                          go_wp2_with fail
                          go_meet
                          exact ⟨by rw [hsx], hA.mv (mvDrewN (E := fun _ => False) _ _) (fun h => h), hB.mv (mvDrewN (E := fun _ => False) _ _) (fun h => h), mD.trans' (mvDrewN _ _)⟩
                      case rest =>
                        clear hA hB mD v1 ya0 ya1 ya2 xa0 xa1 xa2 xa3
                        obtain ⟨rfl, hA, hB, mD⟩ := hcut
                        go_upto_if 153 with fail
                        go_cut [12] from 106 to 188 (fun c wx => ∃ cf' : Nat, c = .int .i64 cf' ∧ cf' ≤ q + 1 ∧ Hid ((f.take (q + 1)).countP (sameT y) = cf') ∧ St1 wx B 0 z ∧ Mv (fun _ => False) wr wx)
                        case first =>
                          cases hsx : sameT y x
                          · simp only [hsx, Bool.false_eq_true, if_false] at hcf2
                            go_wp2_with fail
                            go_meet
                            exact ⟨cf, rfl, by omega, hcf2, hB, mD⟩
                          · simp only [hsx, if_true] at hcf2
                            go_wp2_with fail
                            go_meet
                            exact ⟨cf + 1, by go_num, by omega, hcf2, hB, mD⟩
                        case rest =>
                          clear hA hB mD hcf hcf2
                          obtain ⟨cf', rfl, hcl, hcf3, hB, mD⟩ := hcut
                          have v1 := mD.cell (fun h => h) u1
                          have ya0 := mD.cell (fun h => h) y0
                          have ya1 := mD.cell (fun h => h) y1
                          have ya2 := mD.cell (fun h => h) y2
                          obtain ⟨zb0, zb1, zb2, zb3⟩ := id hB
                          go_upto_region 30 with fail
                          go_cut [186] from 106 to 188 (fun c wx => c = .bool (sameT y z) ∧ Mv (fun _ => False) wr wx)
                          case first =>
                            rcases same_cases y z with ⟨hsz, hz1⟩ | ⟨hsz, hz1, hz2⟩ | ⟨hsz, hz1, hz2, hz3⟩ | ⟨hsz, hz1, hz2, hz3⟩
                            all_goals
                              go_quiet (fail)
                              go_wp2_with fail
                              go_meet
                              exact ⟨by rw [hsz], mD.trans' (mvDrewN _ _)⟩
                          case rest =>
                            clear hB mD v1 ya0 ya1 ya2 zb0 zb1 zb2 zb3
                            obtain ⟨rfl, mD⟩ := hcut
                            cases hsz : sameT y z
                            · simp only [hsz, Bool.false_eq_true, if_false] at hcg2
                              go_wp2_with fail
                              exact ⟨⟨q + 1, cf', cg, by omega, by go_num, rfl, rfl, by omega, by omega, hcf3, hcg2, mq.trans' mD⟩, by simp [intOf]; omega⟩
                            · simp only [hsz, if_true] at hcg2
                              go_wp2_with fail
                              exact ⟨⟨q + 1, cf', cg + 1, by omega, by go_num, rfl, by go_num, by omega, by omega, hcf3, hcg2, mq.trans' mD⟩, by simp [intOf]; omega⟩
                  · obtain rfl : q = k := by omega
                    have hqI : ¬ ((q : Int) < (q : Int)) := by omega
                    have hce : cf = cg := by
                      have h1 := hcf.out
                      have h2 := hcg.out
                      rw [List.take_of_length_le (by rw [hN.out]; omega)] at h1
                      rw [List.take_of_length_le (by rw [hG.out]; omega)] at h2
                      rw [← h1, ← h2, hg4H.out]
                    subst hce
                    go_wp2_with fail
                    exact ⟨⟨p + 1, by omega, by go_num, mq⟩, by simp [intOf]; omega⟩
              · obtain rfl : p = k := by omega
                have hpI : ¬ ((p : Int) < (p : Int)) := by omega
                go_wp2_with fail
                go_ret
                exact ⟨rfl, hb5w.trans (mr.toBelow (by have := hb5w.size; omega) (fun _ _ h => h))⟩
end Go.Proofs.YtiinhfbfciccnaaDoor
