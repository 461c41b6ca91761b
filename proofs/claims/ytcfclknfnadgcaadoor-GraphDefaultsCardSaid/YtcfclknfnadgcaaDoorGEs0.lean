/- GraphDefaults: kinds 0 to 2. -/
import Derived.Test.YtcfclknfnadgcaaDoorGD2
namespace Go.Proofs.YtcfclknfnadgcaaDoor
open Go.RowKit Go.Shelf Go.Lib
set_option maxRecDepth 100000 in
set_option maxHeartbeats 4000000 in
theorem defs_0_false (n : Nat) (hn : n < 256) (hk : n % 6 = 0) (w : World) (hg : GlN w) : Calls Tryd.prog 5 #[.int .u8 n, .bool false] w fun e w' => e = .returned (.bool true) ∧ Below w.heap.size w w' := by
  have hkn := known_any w hg
  have hgl := hidP hg
  have hkI : (n : Int) % 6 = 0 := by omega
  clear hg
  go_enter Tryd.func5, Tryd.ntmps5
  go_wp2_with fail
  refine hkn.mono ?_
  rintro e w0 ⟨rfl, hb0⟩
  have hg0 := hgl.out.below hb0
  have b0H := hidP hb0
  obtain ⟨A, hA⟩ : ∃ A, w0.heap.size = A := ⟨_, rfl⟩
  obtain ⟨W1, hW1⟩ : ∃ W1, w0.alloc (.cells #[.string ⟨#[97, 46, 115, 101, 114, 118, 105, 99, 101]⟩, .string ⟨#[97, 46, 115, 111, 99, 107, 101, 116]⟩, .string ⟨#[97, 46, 116, 105, 109, 101, 114]⟩, .string ⟨#[97, 46, 112, 97, 116, 104]⟩, .string ⟨#[97, 46, 109, 111, 117, 110, 116]⟩, .string ⟨#[97, 46, 116, 97, 114, 103, 101, 116]⟩] 46) = W1 := ⟨_, rfl⟩
  have b1 : Below w0.heap.size w0 W1 := by rw [← hW1]; exact (Below.refl _ _).alloc (Nat.le_refl _) _
  have s1 : W1.heap.size = A + 1 := by rw [← hW1]; simp [hA]
  have x1 : W1.cell? ⟨A, 0, none⟩ = some (.string ⟨#[97, 46, 115, 101, 114, 118, 105, 99, 101]⟩) := by rw [← hW1]; exact cell_at hA rfl
  obtain ⟨W2, hW2⟩ : ∃ W2, W1.alloc (.cells #[.string ⟨#[98, 46, 115, 101, 114, 118, 105, 99, 101]⟩] 9) = W2 := ⟨_, rfl⟩
  have b2 : Below W1.heap.size W1 W2 := by rw [← hW2]; exact (Below.refl _ _).alloc (Nat.le_refl _) _
  have s2 : W2.heap.size = A + 2 := by rw [← hW2]; simp [s1]
  have x2 : W2.cell? ⟨A + 1, 0, none⟩ = some (.string bSv) := by rw [← hW2]; exact cell_at s1 rfl
  obtain ⟨V0, hV0⟩ : ∃ V0, litU ⟨#[97, 46, 115, 101, 114, 118, 105, 99, 101]⟩ 1 (.slice (some ⟨A + 1, 0, none⟩) 1 1) nilV false ⟨#[]⟩ = V0 := ⟨_, rfl⟩
  have hu2 := lit_uv W2 ⟨#[97, 46, 115, 101, 114, 118, 105, 99, 101]⟩ 1 [bSv] [] (.slice (some ⟨A + 1, 0, none⟩) 1 1) nilV false ⟨#[]⟩ (NR.one1 x2) (.inl ⟨rfl, none, 0, rfl⟩)
  have hbk : ∀ b, ubk V0 b → b = A + 1 := fun b hb => by
    rw [← hV0] at hb
    rcases lit_ubk hb with r | r
    · simp [rbk] at r; exact r.symm
    · cases r
  rw [hV0] at hu2
  have hvs := hu2.sz
  obtain ⟨W3, hW3⟩ : ∃ W3, W2.alloc (.cells zuA 29) = W3 := ⟨_, rfl⟩
  obtain ⟨X, hst, hUX, hbX⟩ := fresh_store (W := W2) hu2.sz hu2.on zuA 29 rfl
  rw [hW3, s2] at hst
  rw [s2] at hUX
  have huX := hu2.below hbX
  have bX : Below w0.heap.size w0 X := (b1.trans (b2.mono (by omega))).trans (hbX.mono (by omega))
  have hgX := hg0.below bX
  have hlX := hUX.load hvs
  have lX : A + 3 ≤ X.heap.size := by have := cell_lt (hUX 0 _ hu2.c0); change A + 2 < _ at this; omega
  have hnew := new_any X
  have hUH := hidP hUX
  have huH := hidP huX
  have hgH := hidP hgX
  have bXH := hidP bX
  have hbkH := hidP hbk
  have c0H := hidP hu2.c0
  unfold zuA at hW3
  unfold litU at hV0
  clear hkn hb0 hg0 hgl b1 b2 x2 hu2 hUX hbX huX bX hgX hlX hbk
  go_wp2_with (first | rw [hV0] | rw [hW1] | rw [hW2] | rw [hW3] | refine wpList_storeU rfl _ _ rfl _ rfl _ rfl hvs hst ?_)
  refine hnew.mono ?_
  rintro e w4 ⟨S, rfl, hG, hge, hS0, hb4⟩
  have glt := hgH.out.lt
  have bs := bXH.out.size
  have hadd := add_new S [] V0 (unU ⟨#[97, 46, 115, 101, 114, 118, 105, 99, 101]⟩ 1 [bSv] [] (.slice (some ⟨A + 1, 0, none⟩) 1 1) nilV false ⟨#[]⟩) w4 hG (huH.out.below hb4) (show isN ⟨#[97, 46, 115, 101, 114, 118, 105, 99, 101]⟩ = true by decide +kernel) rfl (by decide) (by rw [rel_core]; decide +kernel) (by rw [tol_core, hS0]; decide +kernel) (hgH.out.below hb4) (fun q => by have := hge _ q; omega) (fun q => by have := hge _ q; omega) (fun b hb q => by have := hbkH.out b hb; have := hge _ q; omega)
  have hU4 : Ub (A + 2) V0 w4 := hUH.out.mv (Mv.below (E := fun _ => False) hb4) (fun q => q)
  have hld4 := hU4.load hvs
  have hgeH := hidP hge
  have b4H := hidP hb4
  have hU4H := hidP hU4
  clear hnew hG hge hS0 hb4 hU4 hst
  go_wp2_with (refine wpList_loadU rfl _ rfl _ rfl _ hld4 ?_)
  refine hadd.mono ?_
  rintro e w5 ⟨rfl, S', cs, hG5, hgo, _⟩
  have y0 : w5.cell? ⟨A + 2, 0, none⟩ = some (.string ⟨#[97, 46, 115, 101, 114, 118, 105, 99, 101]⟩) := hgo.mv.cell (a := ⟨A + 2, 0, none⟩) (fun q => by have := hgeH.out _ q; change X.heap.size ≤ A + 2 at this; omega) (hU4H.out 0 _ c0H.out)
  have h1 := has_any S' _ w5 hG5 5 ⟨#[97, 46, 115, 101, 114, 118, 105, 99, 101]⟩ sdn (by unfold okE; decide)
  have h2 := has_any S' _ w5 hG5 6 sdn ⟨#[97, 46, 115, 101, 114, 118, 105, 99, 101]⟩ (by unfold okE; decide)
  have h3 := has_any S' _ w5 hG5 6 ⟨#[97, 46, 115, 101, 114, 118, 105, 99, 101]⟩ bSv (by unfold okE; decide)
  have h4 := has_any S' _ w5 hG5 1 ⟨#[97, 46, 115, 101, 114, 118, 105, 99, 101]⟩ bSv (by unfold okE; decide)
  have k1 : decide (0 < kL [(cs, (unU ⟨#[97, 46, 115, 101, 114, 118, 105, 99, 101]⟩ 1 [bSv] [] (.slice (some ⟨A + 1, 0, none⟩) 1 1) nilV false ⟨#[]⟩))] (5, ⟨#[97, 46, 115, 101, 114, 118, 105, 99, 101]⟩, sdn)) = true := by rw [kL_one, tol_core]; decide +kernel
  have k2 : decide (0 < kL [(cs, (unU ⟨#[97, 46, 115, 101, 114, 118, 105, 99, 101]⟩ 1 [bSv] [] (.slice (some ⟨A + 1, 0, none⟩) 1 1) nilV false ⟨#[]⟩))] (6, sdn, ⟨#[97, 46, 115, 101, 114, 118, 105, 99, 101]⟩)) = true := by rw [kL_one, tol_core]; decide +kernel
  have k3 : decide (0 < kL [(cs, (unU ⟨#[97, 46, 115, 101, 114, 118, 105, 99, 101]⟩ 1 [bSv] [] (.slice (some ⟨A + 1, 0, none⟩) 1 1) nilV false ⟨#[]⟩))] (6, ⟨#[97, 46, 115, 101, 114, 118, 105, 99, 101]⟩, bSv)) = false := by rw [kL_one, tol_core]; decide +kernel
  have k4 : decide (0 < kL [(cs, (unU ⟨#[97, 46, 115, 101, 114, 118, 105, 99, 101]⟩ 1 [bSv] [] (.slice (some ⟨A + 1, 0, none⟩) 1 1) nilV false ⟨#[]⟩))] (1, ⟨#[97, 46, 115, 101, 114, 118, 105, 99, 101]⟩, bSv)) = true := by rw [kL_one, tol_core]; decide +kernel
  rw [k1, hgo.gb] at h1
  rw [k2, hgo.gb] at h2
  rw [k3, hgo.gb] at h3
  rw [k4, hgo.gb] at h4
  have fin : Hid (Below w.heap.size w w5) := ((b0H.out.trans (bXH.out.mono b0H.out.size)).trans (b4H.out.mono (by have := b0H.out.size; have := bXH.out.size; omega))).trans (hgo.mv.toBelow (by have := b0H.out.size; have := bXH.out.size; have := b4H.out.size; omega) (fun k hk q => by have := hgeH.out k q; have := b0H.out.size; omega))
  clear hadd hld4 hG5 hgo k1 k2 k3 k4
  go_wp2_with fail
  refine h1.mono ?_
  rintro e w6 ⟨rfl, hw6⟩
  replace hw6 := hw6.symm
  subst hw6
  go_wp2_with fail
  refine h2.mono ?_
  rintro e w6 ⟨rfl, hw6⟩
  replace hw6 := hw6.symm
  subst hw6
  go_wp2_with fail
  refine h3.mono ?_
  rintro e w6 ⟨rfl, hw6⟩
  replace hw6 := hw6.symm
  subst hw6
  go_wp2_with fail
  refine h4.mono ?_
  rintro e w6 ⟨rfl, hw6⟩
  replace hw6 := hw6.symm
  subst hw6
  go_wp2_with fail
  go_ret
  exact ⟨rfl, fin.out⟩
set_option maxRecDepth 100000 in
set_option maxHeartbeats 4000000 in
theorem defs_0_true (n : Nat) (hn : n < 256) (hk : n % 6 = 0) (w : World) (hg : GlN w) : Calls Tryd.prog 5 #[.int .u8 n, .bool true] w fun e w' => e = .returned (.bool true) ∧ Below w.heap.size w w' := by
  have hkn := known_any w hg
  have hgl := hidP hg
  have hkI : (n : Int) % 6 = 0 := by omega
  clear hg
  go_enter Tryd.func5, Tryd.ntmps5
  go_wp2_with fail
  refine hkn.mono ?_
  rintro e w0 ⟨rfl, hb0⟩
  have hg0 := hgl.out.below hb0
  have b0H := hidP hb0
  obtain ⟨A, hA⟩ : ∃ A, w0.heap.size = A := ⟨_, rfl⟩
  obtain ⟨W1, hW1⟩ : ∃ W1, w0.alloc (.cells #[.string ⟨#[97, 46, 115, 101, 114, 118, 105, 99, 101]⟩, .string ⟨#[97, 46, 115, 111, 99, 107, 101, 116]⟩, .string ⟨#[97, 46, 116, 105, 109, 101, 114]⟩, .string ⟨#[97, 46, 112, 97, 116, 104]⟩, .string ⟨#[97, 46, 109, 111, 117, 110, 116]⟩, .string ⟨#[97, 46, 116, 97, 114, 103, 101, 116]⟩] 46) = W1 := ⟨_, rfl⟩
  have b1 : Below w0.heap.size w0 W1 := by rw [← hW1]; exact (Below.refl _ _).alloc (Nat.le_refl _) _
  have s1 : W1.heap.size = A + 1 := by rw [← hW1]; simp [hA]
  have x1 : W1.cell? ⟨A, 0, none⟩ = some (.string ⟨#[97, 46, 115, 101, 114, 118, 105, 99, 101]⟩) := by rw [← hW1]; exact cell_at hA rfl
  obtain ⟨W2, hW2⟩ : ∃ W2, W1.alloc (.cells #[.string ⟨#[98, 46, 115, 101, 114, 118, 105, 99, 101]⟩] 9) = W2 := ⟨_, rfl⟩
  have b2 : Below W1.heap.size W1 W2 := by rw [← hW2]; exact (Below.refl _ _).alloc (Nat.le_refl _) _
  have s2 : W2.heap.size = A + 2 := by rw [← hW2]; simp [s1]
  have x2 : W2.cell? ⟨A + 1, 0, none⟩ = some (.string bSv) := by rw [← hW2]; exact cell_at s1 rfl
  obtain ⟨V0, hV0⟩ : ∃ V0, litU ⟨#[97, 46, 115, 101, 114, 118, 105, 99, 101]⟩ 1 (.slice (some ⟨A + 1, 0, none⟩) 1 1) nilV true ⟨#[]⟩ = V0 := ⟨_, rfl⟩
  have hu2 := lit_uv W2 ⟨#[97, 46, 115, 101, 114, 118, 105, 99, 101]⟩ 1 [bSv] [] (.slice (some ⟨A + 1, 0, none⟩) 1 1) nilV true ⟨#[]⟩ (NR.one1 x2) (.inl ⟨rfl, none, 0, rfl⟩)
  have hbk : ∀ b, ubk V0 b → b = A + 1 := fun b hb => by
    rw [← hV0] at hb
    rcases lit_ubk hb with r | r
    · simp [rbk] at r; exact r.symm
    · cases r
  rw [hV0] at hu2
  have hvs := hu2.sz
  obtain ⟨W3, hW3⟩ : ∃ W3, W2.alloc (.cells zuA 29) = W3 := ⟨_, rfl⟩
  obtain ⟨X, hst, hUX, hbX⟩ := fresh_store (W := W2) hu2.sz hu2.on zuA 29 rfl
  rw [hW3, s2] at hst
  rw [s2] at hUX
  have huX := hu2.below hbX
  have bX : Below w0.heap.size w0 X := (b1.trans (b2.mono (by omega))).trans (hbX.mono (by omega))
  have hgX := hg0.below bX
  have hlX := hUX.load hvs
  have lX : A + 3 ≤ X.heap.size := by have := cell_lt (hUX 0 _ hu2.c0); change A + 2 < _ at this; omega
  have hnew := new_any X
  have hUH := hidP hUX
  have huH := hidP huX
  have hgH := hidP hgX
  have bXH := hidP bX
  have hbkH := hidP hbk
  have c0H := hidP hu2.c0
  unfold zuA at hW3
  unfold litU at hV0
  clear hkn hb0 hg0 hgl b1 b2 x2 hu2 hUX hbX huX bX hgX hlX hbk
  go_wp2_with (first | rw [hV0] | rw [hW1] | rw [hW2] | rw [hW3] | refine wpList_storeU rfl _ _ rfl _ rfl _ rfl hvs hst ?_)
  refine hnew.mono ?_
  rintro e w4 ⟨S, rfl, hG, hge, hS0, hb4⟩
  have glt := hgH.out.lt
  have bs := bXH.out.size
  have hadd := add_new S [] V0 (unU ⟨#[97, 46, 115, 101, 114, 118, 105, 99, 101]⟩ 1 [bSv] [] (.slice (some ⟨A + 1, 0, none⟩) 1 1) nilV true ⟨#[]⟩) w4 hG (huH.out.below hb4) (show isN ⟨#[97, 46, 115, 101, 114, 118, 105, 99, 101]⟩ = true by decide +kernel) rfl (by decide) (by rw [rel_core]; decide +kernel) (by rw [tol_core, hS0]; decide +kernel) (hgH.out.below hb4) (fun q => by have := hge _ q; omega) (fun q => by have := hge _ q; omega) (fun b hb q => by have := hbkH.out b hb; have := hge _ q; omega)
  have hU4 : Ub (A + 2) V0 w4 := hUH.out.mv (Mv.below (E := fun _ => False) hb4) (fun q => q)
  have hld4 := hU4.load hvs
  have hgeH := hidP hge
  have b4H := hidP hb4
  have hU4H := hidP hU4
  clear hnew hG hge hS0 hb4 hU4 hst
  go_wp2_with (refine wpList_loadU rfl _ rfl _ rfl _ hld4 ?_)
  refine hadd.mono ?_
  rintro e w5 ⟨rfl, S', cs, hG5, hgo, _⟩
  have y0 : w5.cell? ⟨A + 2, 0, none⟩ = some (.string ⟨#[97, 46, 115, 101, 114, 118, 105, 99, 101]⟩) := hgo.mv.cell (a := ⟨A + 2, 0, none⟩) (fun q => by have := hgeH.out _ q; change X.heap.size ≤ A + 2 at this; omega) (hU4H.out 0 _ c0H.out)
  have h1 := has_any S' _ w5 hG5 5 ⟨#[97, 46, 115, 101, 114, 118, 105, 99, 101]⟩ sdn (by unfold okE; decide)
  have h2 := has_any S' _ w5 hG5 6 sdn ⟨#[97, 46, 115, 101, 114, 118, 105, 99, 101]⟩ (by unfold okE; decide)
  have h3 := has_any S' _ w5 hG5 6 ⟨#[97, 46, 115, 101, 114, 118, 105, 99, 101]⟩ bSv (by unfold okE; decide)
  have h4 := has_any S' _ w5 hG5 1 ⟨#[97, 46, 115, 101, 114, 118, 105, 99, 101]⟩ bSv (by unfold okE; decide)
  have k1 : decide (0 < kL [(cs, (unU ⟨#[97, 46, 115, 101, 114, 118, 105, 99, 101]⟩ 1 [bSv] [] (.slice (some ⟨A + 1, 0, none⟩) 1 1) nilV true ⟨#[]⟩))] (5, ⟨#[97, 46, 115, 101, 114, 118, 105, 99, 101]⟩, sdn)) = false := by rw [kL_one, tol_core]; decide +kernel
  have k2 : decide (0 < kL [(cs, (unU ⟨#[97, 46, 115, 101, 114, 118, 105, 99, 101]⟩ 1 [bSv] [] (.slice (some ⟨A + 1, 0, none⟩) 1 1) nilV true ⟨#[]⟩))] (6, sdn, ⟨#[97, 46, 115, 101, 114, 118, 105, 99, 101]⟩)) = false := by rw [kL_one, tol_core]; decide +kernel
  have k3 : decide (0 < kL [(cs, (unU ⟨#[97, 46, 115, 101, 114, 118, 105, 99, 101]⟩ 1 [bSv] [] (.slice (some ⟨A + 1, 0, none⟩) 1 1) nilV true ⟨#[]⟩))] (6, ⟨#[97, 46, 115, 101, 114, 118, 105, 99, 101]⟩, bSv)) = false := by rw [kL_one, tol_core]; decide +kernel
  have k4 : decide (0 < kL [(cs, (unU ⟨#[97, 46, 115, 101, 114, 118, 105, 99, 101]⟩ 1 [bSv] [] (.slice (some ⟨A + 1, 0, none⟩) 1 1) nilV true ⟨#[]⟩))] (1, ⟨#[97, 46, 115, 101, 114, 118, 105, 99, 101]⟩, bSv)) = true := by rw [kL_one, tol_core]; decide +kernel
  rw [k1, hgo.gb] at h1
  rw [k2, hgo.gb] at h2
  rw [k3, hgo.gb] at h3
  rw [k4, hgo.gb] at h4
  have fin : Hid (Below w.heap.size w w5) := ((b0H.out.trans (bXH.out.mono b0H.out.size)).trans (b4H.out.mono (by have := b0H.out.size; have := bXH.out.size; omega))).trans (hgo.mv.toBelow (by have := b0H.out.size; have := bXH.out.size; have := b4H.out.size; omega) (fun k hk q => by have := hgeH.out k q; have := b0H.out.size; omega))
  clear hadd hld4 hG5 hgo k1 k2 k3 k4
  go_wp2_with fail
  refine h1.mono ?_
  rintro e w6 ⟨rfl, hw6⟩
  replace hw6 := hw6.symm
  subst hw6
  go_wp2_with fail
  refine h2.mono ?_
  rintro e w6 ⟨rfl, hw6⟩
  replace hw6 := hw6.symm
  subst hw6
  go_wp2_with fail
  refine h3.mono ?_
  rintro e w6 ⟨rfl, hw6⟩
  replace hw6 := hw6.symm
  subst hw6
  go_wp2_with fail
  refine h4.mono ?_
  rintro e w6 ⟨rfl, hw6⟩
  replace hw6 := hw6.symm
  subst hw6
  go_wp2_with fail
  go_ret
  exact ⟨rfl, fin.out⟩
set_option maxRecDepth 100000 in
set_option maxHeartbeats 4000000 in
theorem defs_1_false (n : Nat) (hn : n < 256) (hk : n % 6 = 1) (w : World) (hg : GlN w) : Calls Tryd.prog 5 #[.int .u8 n, .bool false] w fun e w' => e = .returned (.bool true) ∧ Below w.heap.size w w' := by
  have hkn := known_any w hg
  have hgl := hidP hg
  have hkI : (n : Int) % 6 = 1 := by omega
  clear hg
  go_enter Tryd.func5, Tryd.ntmps5
  go_wp2_with fail
  refine hkn.mono ?_
  rintro e w0 ⟨rfl, hb0⟩
  have hg0 := hgl.out.below hb0
  have b0H := hidP hb0
  obtain ⟨A, hA⟩ : ∃ A, w0.heap.size = A := ⟨_, rfl⟩
  obtain ⟨W1, hW1⟩ : ∃ W1, w0.alloc (.cells #[.string ⟨#[97, 46, 115, 101, 114, 118, 105, 99, 101]⟩, .string ⟨#[97, 46, 115, 111, 99, 107, 101, 116]⟩, .string ⟨#[97, 46, 116, 105, 109, 101, 114]⟩, .string ⟨#[97, 46, 112, 97, 116, 104]⟩, .string ⟨#[97, 46, 109, 111, 117, 110, 116]⟩, .string ⟨#[97, 46, 116, 97, 114, 103, 101, 116]⟩] 46) = W1 := ⟨_, rfl⟩
  have b1 : Below w0.heap.size w0 W1 := by rw [← hW1]; exact (Below.refl _ _).alloc (Nat.le_refl _) _
  have s1 : W1.heap.size = A + 1 := by rw [← hW1]; simp [hA]
  have x1 : W1.cell? ⟨A, 1, none⟩ = some (.string ⟨#[97, 46, 115, 111, 99, 107, 101, 116]⟩) := by rw [← hW1]; exact cell_at hA rfl
  obtain ⟨W2, hW2⟩ : ∃ W2, W1.alloc (.cells #[.string ⟨#[98, 46, 115, 101, 114, 118, 105, 99, 101]⟩] 9) = W2 := ⟨_, rfl⟩
  have b2 : Below W1.heap.size W1 W2 := by rw [← hW2]; exact (Below.refl _ _).alloc (Nat.le_refl _) _
  have s2 : W2.heap.size = A + 2 := by rw [← hW2]; simp [s1]
  have x2 : W2.cell? ⟨A + 1, 0, none⟩ = some (.string bSv) := by rw [← hW2]; exact cell_at s1 rfl
  obtain ⟨V0, hV0⟩ : ∃ V0, litU ⟨#[97, 46, 115, 111, 99, 107, 101, 116]⟩ 2 (.slice (some ⟨A + 1, 0, none⟩) 1 1) nilV false ⟨#[]⟩ = V0 := ⟨_, rfl⟩
  have hu2 := lit_uv W2 ⟨#[97, 46, 115, 111, 99, 107, 101, 116]⟩ 2 [bSv] [] (.slice (some ⟨A + 1, 0, none⟩) 1 1) nilV false ⟨#[]⟩ (NR.one1 x2) (.inl ⟨rfl, none, 0, rfl⟩)
  have hbk : ∀ b, ubk V0 b → b = A + 1 := fun b hb => by
    rw [← hV0] at hb
    rcases lit_ubk hb with r | r
    · simp [rbk] at r; exact r.symm
    · cases r
  rw [hV0] at hu2
  have hvs := hu2.sz
  obtain ⟨W3, hW3⟩ : ∃ W3, W2.alloc (.cells zuA 29) = W3 := ⟨_, rfl⟩
  obtain ⟨X, hst, hUX, hbX⟩ := fresh_store (W := W2) hu2.sz hu2.on zuA 29 rfl
  rw [hW3, s2] at hst
  rw [s2] at hUX
  have huX := hu2.below hbX
  have bX : Below w0.heap.size w0 X := (b1.trans (b2.mono (by omega))).trans (hbX.mono (by omega))
  have hgX := hg0.below bX
  have hlX := hUX.load hvs
  have lX : A + 3 ≤ X.heap.size := by have := cell_lt (hUX 0 _ hu2.c0); change A + 2 < _ at this; omega
  have hnew := new_any X
  have hUH := hidP hUX
  have huH := hidP huX
  have hgH := hidP hgX
  have bXH := hidP bX
  have hbkH := hidP hbk
  have c0H := hidP hu2.c0
  unfold zuA at hW3
  unfold litU at hV0
  clear hkn hb0 hg0 hgl b1 b2 x2 hu2 hUX hbX huX bX hgX hlX hbk
  go_wp2_with (first | rw [hV0] | rw [hW1] | rw [hW2] | rw [hW3] | refine wpList_storeU rfl _ _ rfl _ rfl _ rfl hvs hst ?_)
  refine hnew.mono ?_
  rintro e w4 ⟨S, rfl, hG, hge, hS0, hb4⟩
  have glt := hgH.out.lt
  have bs := bXH.out.size
  have hadd := add_new S [] V0 (unU ⟨#[97, 46, 115, 111, 99, 107, 101, 116]⟩ 2 [bSv] [] (.slice (some ⟨A + 1, 0, none⟩) 1 1) nilV false ⟨#[]⟩) w4 hG (huH.out.below hb4) (show isN ⟨#[97, 46, 115, 111, 99, 107, 101, 116]⟩ = true by decide +kernel) rfl (by decide) (by rw [rel_core]; decide +kernel) (by rw [tol_core, hS0]; decide +kernel) (hgH.out.below hb4) (fun q => by have := hge _ q; omega) (fun q => by have := hge _ q; omega) (fun b hb q => by have := hbkH.out b hb; have := hge _ q; omega)
  have hU4 : Ub (A + 2) V0 w4 := hUH.out.mv (Mv.below (E := fun _ => False) hb4) (fun q => q)
  have hld4 := hU4.load hvs
  have hgeH := hidP hge
  have b4H := hidP hb4
  have hU4H := hidP hU4
  clear hnew hG hge hS0 hb4 hU4 hst
  go_wp2_with (refine wpList_loadU rfl _ rfl _ rfl _ hld4 ?_)
  refine hadd.mono ?_
  rintro e w5 ⟨rfl, S', cs, hG5, hgo, _⟩
  have y0 : w5.cell? ⟨A + 2, 0, none⟩ = some (.string ⟨#[97, 46, 115, 111, 99, 107, 101, 116]⟩) := hgo.mv.cell (a := ⟨A + 2, 0, none⟩) (fun q => by have := hgeH.out _ q; change X.heap.size ≤ A + 2 at this; omega) (hU4H.out 0 _ c0H.out)
  have h1 := has_any S' _ w5 hG5 5 ⟨#[97, 46, 115, 111, 99, 107, 101, 116]⟩ sdn (by unfold okE; decide)
  have h2 := has_any S' _ w5 hG5 6 sdn ⟨#[97, 46, 115, 111, 99, 107, 101, 116]⟩ (by unfold okE; decide)
  have h3 := has_any S' _ w5 hG5 6 ⟨#[97, 46, 115, 111, 99, 107, 101, 116]⟩ bSv (by unfold okE; decide)
  have h4 := has_any S' _ w5 hG5 1 ⟨#[97, 46, 115, 111, 99, 107, 101, 116]⟩ bSv (by unfold okE; decide)
  have k1 : decide (0 < kL [(cs, (unU ⟨#[97, 46, 115, 111, 99, 107, 101, 116]⟩ 2 [bSv] [] (.slice (some ⟨A + 1, 0, none⟩) 1 1) nilV false ⟨#[]⟩))] (5, ⟨#[97, 46, 115, 111, 99, 107, 101, 116]⟩, sdn)) = true := by rw [kL_one, tol_core]; decide +kernel
  have k2 : decide (0 < kL [(cs, (unU ⟨#[97, 46, 115, 111, 99, 107, 101, 116]⟩ 2 [bSv] [] (.slice (some ⟨A + 1, 0, none⟩) 1 1) nilV false ⟨#[]⟩))] (6, sdn, ⟨#[97, 46, 115, 111, 99, 107, 101, 116]⟩)) = true := by rw [kL_one, tol_core]; decide +kernel
  have k3 : decide (0 < kL [(cs, (unU ⟨#[97, 46, 115, 111, 99, 107, 101, 116]⟩ 2 [bSv] [] (.slice (some ⟨A + 1, 0, none⟩) 1 1) nilV false ⟨#[]⟩))] (6, ⟨#[97, 46, 115, 111, 99, 107, 101, 116]⟩, bSv)) = false := by rw [kL_one, tol_core]; decide +kernel
  have k4 : decide (0 < kL [(cs, (unU ⟨#[97, 46, 115, 111, 99, 107, 101, 116]⟩ 2 [bSv] [] (.slice (some ⟨A + 1, 0, none⟩) 1 1) nilV false ⟨#[]⟩))] (1, ⟨#[97, 46, 115, 111, 99, 107, 101, 116]⟩, bSv)) = true := by rw [kL_one, tol_core]; decide +kernel
  rw [k1, hgo.gb] at h1
  rw [k2, hgo.gb] at h2
  rw [k3, hgo.gb] at h3
  rw [k4, hgo.gb] at h4
  have fin : Hid (Below w.heap.size w w5) := ((b0H.out.trans (bXH.out.mono b0H.out.size)).trans (b4H.out.mono (by have := b0H.out.size; have := bXH.out.size; omega))).trans (hgo.mv.toBelow (by have := b0H.out.size; have := bXH.out.size; have := b4H.out.size; omega) (fun k hk q => by have := hgeH.out k q; have := b0H.out.size; omega))
  clear hadd hld4 hG5 hgo k1 k2 k3 k4
  go_wp2_with fail
  refine h1.mono ?_
  rintro e w6 ⟨rfl, hw6⟩
  replace hw6 := hw6.symm
  subst hw6
  go_wp2_with fail
  refine h2.mono ?_
  rintro e w6 ⟨rfl, hw6⟩
  replace hw6 := hw6.symm
  subst hw6
  go_wp2_with fail
  refine h3.mono ?_
  rintro e w6 ⟨rfl, hw6⟩
  replace hw6 := hw6.symm
  subst hw6
  go_wp2_with fail
  refine h4.mono ?_
  rintro e w6 ⟨rfl, hw6⟩
  replace hw6 := hw6.symm
  subst hw6
  go_wp2_with fail
  go_ret
  exact ⟨rfl, fin.out⟩
set_option maxRecDepth 100000 in
set_option maxHeartbeats 4000000 in
theorem defs_1_true (n : Nat) (hn : n < 256) (hk : n % 6 = 1) (w : World) (hg : GlN w) : Calls Tryd.prog 5 #[.int .u8 n, .bool true] w fun e w' => e = .returned (.bool true) ∧ Below w.heap.size w w' := by
  have hkn := known_any w hg
  have hgl := hidP hg
  have hkI : (n : Int) % 6 = 1 := by omega
  clear hg
  go_enter Tryd.func5, Tryd.ntmps5
  go_wp2_with fail
  refine hkn.mono ?_
  rintro e w0 ⟨rfl, hb0⟩
  have hg0 := hgl.out.below hb0
  have b0H := hidP hb0
  obtain ⟨A, hA⟩ : ∃ A, w0.heap.size = A := ⟨_, rfl⟩
  obtain ⟨W1, hW1⟩ : ∃ W1, w0.alloc (.cells #[.string ⟨#[97, 46, 115, 101, 114, 118, 105, 99, 101]⟩, .string ⟨#[97, 46, 115, 111, 99, 107, 101, 116]⟩, .string ⟨#[97, 46, 116, 105, 109, 101, 114]⟩, .string ⟨#[97, 46, 112, 97, 116, 104]⟩, .string ⟨#[97, 46, 109, 111, 117, 110, 116]⟩, .string ⟨#[97, 46, 116, 97, 114, 103, 101, 116]⟩] 46) = W1 := ⟨_, rfl⟩
  have b1 : Below w0.heap.size w0 W1 := by rw [← hW1]; exact (Below.refl _ _).alloc (Nat.le_refl _) _
  have s1 : W1.heap.size = A + 1 := by rw [← hW1]; simp [hA]
  have x1 : W1.cell? ⟨A, 1, none⟩ = some (.string ⟨#[97, 46, 115, 111, 99, 107, 101, 116]⟩) := by rw [← hW1]; exact cell_at hA rfl
  obtain ⟨W2, hW2⟩ : ∃ W2, W1.alloc (.cells #[.string ⟨#[98, 46, 115, 101, 114, 118, 105, 99, 101]⟩] 9) = W2 := ⟨_, rfl⟩
  have b2 : Below W1.heap.size W1 W2 := by rw [← hW2]; exact (Below.refl _ _).alloc (Nat.le_refl _) _
  have s2 : W2.heap.size = A + 2 := by rw [← hW2]; simp [s1]
  have x2 : W2.cell? ⟨A + 1, 0, none⟩ = some (.string bSv) := by rw [← hW2]; exact cell_at s1 rfl
  obtain ⟨V0, hV0⟩ : ∃ V0, litU ⟨#[97, 46, 115, 111, 99, 107, 101, 116]⟩ 2 (.slice (some ⟨A + 1, 0, none⟩) 1 1) nilV true ⟨#[]⟩ = V0 := ⟨_, rfl⟩
  have hu2 := lit_uv W2 ⟨#[97, 46, 115, 111, 99, 107, 101, 116]⟩ 2 [bSv] [] (.slice (some ⟨A + 1, 0, none⟩) 1 1) nilV true ⟨#[]⟩ (NR.one1 x2) (.inl ⟨rfl, none, 0, rfl⟩)
  have hbk : ∀ b, ubk V0 b → b = A + 1 := fun b hb => by
    rw [← hV0] at hb
    rcases lit_ubk hb with r | r
    · simp [rbk] at r; exact r.symm
    · cases r
  rw [hV0] at hu2
  have hvs := hu2.sz
  obtain ⟨W3, hW3⟩ : ∃ W3, W2.alloc (.cells zuA 29) = W3 := ⟨_, rfl⟩
  obtain ⟨X, hst, hUX, hbX⟩ := fresh_store (W := W2) hu2.sz hu2.on zuA 29 rfl
  rw [hW3, s2] at hst
  rw [s2] at hUX
  have huX := hu2.below hbX
  have bX : Below w0.heap.size w0 X := (b1.trans (b2.mono (by omega))).trans (hbX.mono (by omega))
  have hgX := hg0.below bX
  have hlX := hUX.load hvs
  have lX : A + 3 ≤ X.heap.size := by have := cell_lt (hUX 0 _ hu2.c0); change A + 2 < _ at this; omega
  have hnew := new_any X
  have hUH := hidP hUX
  have huH := hidP huX
  have hgH := hidP hgX
  have bXH := hidP bX
  have hbkH := hidP hbk
  have c0H := hidP hu2.c0
  unfold zuA at hW3
  unfold litU at hV0
  clear hkn hb0 hg0 hgl b1 b2 x2 hu2 hUX hbX huX bX hgX hlX hbk
  go_wp2_with (first | rw [hV0] | rw [hW1] | rw [hW2] | rw [hW3] | refine wpList_storeU rfl _ _ rfl _ rfl _ rfl hvs hst ?_)
  refine hnew.mono ?_
  rintro e w4 ⟨S, rfl, hG, hge, hS0, hb4⟩
  have glt := hgH.out.lt
  have bs := bXH.out.size
  have hadd := add_new S [] V0 (unU ⟨#[97, 46, 115, 111, 99, 107, 101, 116]⟩ 2 [bSv] [] (.slice (some ⟨A + 1, 0, none⟩) 1 1) nilV true ⟨#[]⟩) w4 hG (huH.out.below hb4) (show isN ⟨#[97, 46, 115, 111, 99, 107, 101, 116]⟩ = true by decide +kernel) rfl (by decide) (by rw [rel_core]; decide +kernel) (by rw [tol_core, hS0]; decide +kernel) (hgH.out.below hb4) (fun q => by have := hge _ q; omega) (fun q => by have := hge _ q; omega) (fun b hb q => by have := hbkH.out b hb; have := hge _ q; omega)
  have hU4 : Ub (A + 2) V0 w4 := hUH.out.mv (Mv.below (E := fun _ => False) hb4) (fun q => q)
  have hld4 := hU4.load hvs
  have hgeH := hidP hge
  have b4H := hidP hb4
  have hU4H := hidP hU4
  clear hnew hG hge hS0 hb4 hU4 hst
  go_wp2_with (refine wpList_loadU rfl _ rfl _ rfl _ hld4 ?_)
  refine hadd.mono ?_
  rintro e w5 ⟨rfl, S', cs, hG5, hgo, _⟩
  have y0 : w5.cell? ⟨A + 2, 0, none⟩ = some (.string ⟨#[97, 46, 115, 111, 99, 107, 101, 116]⟩) := hgo.mv.cell (a := ⟨A + 2, 0, none⟩) (fun q => by have := hgeH.out _ q; change X.heap.size ≤ A + 2 at this; omega) (hU4H.out 0 _ c0H.out)
  have h1 := has_any S' _ w5 hG5 5 ⟨#[97, 46, 115, 111, 99, 107, 101, 116]⟩ sdn (by unfold okE; decide)
  have h2 := has_any S' _ w5 hG5 6 sdn ⟨#[97, 46, 115, 111, 99, 107, 101, 116]⟩ (by unfold okE; decide)
  have h3 := has_any S' _ w5 hG5 6 ⟨#[97, 46, 115, 111, 99, 107, 101, 116]⟩ bSv (by unfold okE; decide)
  have h4 := has_any S' _ w5 hG5 1 ⟨#[97, 46, 115, 111, 99, 107, 101, 116]⟩ bSv (by unfold okE; decide)
  have k1 : decide (0 < kL [(cs, (unU ⟨#[97, 46, 115, 111, 99, 107, 101, 116]⟩ 2 [bSv] [] (.slice (some ⟨A + 1, 0, none⟩) 1 1) nilV true ⟨#[]⟩))] (5, ⟨#[97, 46, 115, 111, 99, 107, 101, 116]⟩, sdn)) = false := by rw [kL_one, tol_core]; decide +kernel
  have k2 : decide (0 < kL [(cs, (unU ⟨#[97, 46, 115, 111, 99, 107, 101, 116]⟩ 2 [bSv] [] (.slice (some ⟨A + 1, 0, none⟩) 1 1) nilV true ⟨#[]⟩))] (6, sdn, ⟨#[97, 46, 115, 111, 99, 107, 101, 116]⟩)) = false := by rw [kL_one, tol_core]; decide +kernel
  have k3 : decide (0 < kL [(cs, (unU ⟨#[97, 46, 115, 111, 99, 107, 101, 116]⟩ 2 [bSv] [] (.slice (some ⟨A + 1, 0, none⟩) 1 1) nilV true ⟨#[]⟩))] (6, ⟨#[97, 46, 115, 111, 99, 107, 101, 116]⟩, bSv)) = false := by rw [kL_one, tol_core]; decide +kernel
  have k4 : decide (0 < kL [(cs, (unU ⟨#[97, 46, 115, 111, 99, 107, 101, 116]⟩ 2 [bSv] [] (.slice (some ⟨A + 1, 0, none⟩) 1 1) nilV true ⟨#[]⟩))] (1, ⟨#[97, 46, 115, 111, 99, 107, 101, 116]⟩, bSv)) = true := by rw [kL_one, tol_core]; decide +kernel
  rw [k1, hgo.gb] at h1
  rw [k2, hgo.gb] at h2
  rw [k3, hgo.gb] at h3
  rw [k4, hgo.gb] at h4
  have fin : Hid (Below w.heap.size w w5) := ((b0H.out.trans (bXH.out.mono b0H.out.size)).trans (b4H.out.mono (by have := b0H.out.size; have := bXH.out.size; omega))).trans (hgo.mv.toBelow (by have := b0H.out.size; have := bXH.out.size; have := b4H.out.size; omega) (fun k hk q => by have := hgeH.out k q; have := b0H.out.size; omega))
  clear hadd hld4 hG5 hgo k1 k2 k3 k4
  go_wp2_with fail
  refine h1.mono ?_
  rintro e w6 ⟨rfl, hw6⟩
  replace hw6 := hw6.symm
  subst hw6
  go_wp2_with fail
  refine h2.mono ?_
  rintro e w6 ⟨rfl, hw6⟩
  replace hw6 := hw6.symm
  subst hw6
  go_wp2_with fail
  refine h3.mono ?_
  rintro e w6 ⟨rfl, hw6⟩
  replace hw6 := hw6.symm
  subst hw6
  go_wp2_with fail
  refine h4.mono ?_
  rintro e w6 ⟨rfl, hw6⟩
  replace hw6 := hw6.symm
  subst hw6
  go_wp2_with fail
  go_ret
  exact ⟨rfl, fin.out⟩
set_option maxRecDepth 100000 in
set_option maxHeartbeats 4000000 in
theorem defs_2_false (n : Nat) (hn : n < 256) (hk : n % 6 = 2) (w : World) (hg : GlN w) : Calls Tryd.prog 5 #[.int .u8 n, .bool false] w fun e w' => e = .returned (.bool true) ∧ Below w.heap.size w w' := by
  have hkn := known_any w hg
  have hgl := hidP hg
  have hkI : (n : Int) % 6 = 2 := by omega
  clear hg
  go_enter Tryd.func5, Tryd.ntmps5
  go_wp2_with fail
  refine hkn.mono ?_
  rintro e w0 ⟨rfl, hb0⟩
  have hg0 := hgl.out.below hb0
  have b0H := hidP hb0
  obtain ⟨A, hA⟩ : ∃ A, w0.heap.size = A := ⟨_, rfl⟩
  obtain ⟨W1, hW1⟩ : ∃ W1, w0.alloc (.cells #[.string ⟨#[97, 46, 115, 101, 114, 118, 105, 99, 101]⟩, .string ⟨#[97, 46, 115, 111, 99, 107, 101, 116]⟩, .string ⟨#[97, 46, 116, 105, 109, 101, 114]⟩, .string ⟨#[97, 46, 112, 97, 116, 104]⟩, .string ⟨#[97, 46, 109, 111, 117, 110, 116]⟩, .string ⟨#[97, 46, 116, 97, 114, 103, 101, 116]⟩] 46) = W1 := ⟨_, rfl⟩
  have b1 : Below w0.heap.size w0 W1 := by rw [← hW1]; exact (Below.refl _ _).alloc (Nat.le_refl _) _
  have s1 : W1.heap.size = A + 1 := by rw [← hW1]; simp [hA]
  have x1 : W1.cell? ⟨A, 2, none⟩ = some (.string ⟨#[97, 46, 116, 105, 109, 101, 114]⟩) := by rw [← hW1]; exact cell_at hA rfl
  obtain ⟨W2, hW2⟩ : ∃ W2, W1.alloc (.cells #[.string ⟨#[98, 46, 115, 101, 114, 118, 105, 99, 101]⟩] 9) = W2 := ⟨_, rfl⟩
  have b2 : Below W1.heap.size W1 W2 := by rw [← hW2]; exact (Below.refl _ _).alloc (Nat.le_refl _) _
  have s2 : W2.heap.size = A + 2 := by rw [← hW2]; simp [s1]
  have x2 : W2.cell? ⟨A + 1, 0, none⟩ = some (.string bSv) := by rw [← hW2]; exact cell_at s1 rfl
  obtain ⟨V0, hV0⟩ : ∃ V0, litU ⟨#[97, 46, 116, 105, 109, 101, 114]⟩ 3 (.slice (some ⟨A + 1, 0, none⟩) 1 1) nilV false ⟨#[]⟩ = V0 := ⟨_, rfl⟩
  have hu2 := lit_uv W2 ⟨#[97, 46, 116, 105, 109, 101, 114]⟩ 3 [bSv] [] (.slice (some ⟨A + 1, 0, none⟩) 1 1) nilV false ⟨#[]⟩ (NR.one1 x2) (.inl ⟨rfl, none, 0, rfl⟩)
  have hbk : ∀ b, ubk V0 b → b = A + 1 := fun b hb => by
    rw [← hV0] at hb
    rcases lit_ubk hb with r | r
    · simp [rbk] at r; exact r.symm
    · cases r
  rw [hV0] at hu2
  have hvs := hu2.sz
  obtain ⟨W3, hW3⟩ : ∃ W3, W2.alloc (.cells zuA 29) = W3 := ⟨_, rfl⟩
  obtain ⟨X, hst, hUX, hbX⟩ := fresh_store (W := W2) hu2.sz hu2.on zuA 29 rfl
  rw [hW3, s2] at hst
  rw [s2] at hUX
  have huX := hu2.below hbX
  have bX : Below w0.heap.size w0 X := (b1.trans (b2.mono (by omega))).trans (hbX.mono (by omega))
  have hgX := hg0.below bX
  have hlX := hUX.load hvs
  have lX : A + 3 ≤ X.heap.size := by have := cell_lt (hUX 0 _ hu2.c0); change A + 2 < _ at this; omega
  have hnew := new_any X
  have hUH := hidP hUX
  have huH := hidP huX
  have hgH := hidP hgX
  have bXH := hidP bX
  have hbkH := hidP hbk
  have c0H := hidP hu2.c0
  unfold zuA at hW3
  unfold litU at hV0
  clear hkn hb0 hg0 hgl b1 b2 x2 hu2 hUX hbX huX bX hgX hlX hbk
  go_wp2_with (first | rw [hV0] | rw [hW1] | rw [hW2] | rw [hW3] | refine wpList_storeU rfl _ _ rfl _ rfl _ rfl hvs hst ?_)
  refine hnew.mono ?_
  rintro e w4 ⟨S, rfl, hG, hge, hS0, hb4⟩
  have glt := hgH.out.lt
  have bs := bXH.out.size
  have hadd := add_new S [] V0 (unU ⟨#[97, 46, 116, 105, 109, 101, 114]⟩ 3 [bSv] [] (.slice (some ⟨A + 1, 0, none⟩) 1 1) nilV false ⟨#[]⟩) w4 hG (huH.out.below hb4) (show isN ⟨#[97, 46, 116, 105, 109, 101, 114]⟩ = true by decide +kernel) rfl (by decide) (by rw [rel_core]; decide +kernel) (by rw [tol_core, hS0]; decide +kernel) (hgH.out.below hb4) (fun q => by have := hge _ q; omega) (fun q => by have := hge _ q; omega) (fun b hb q => by have := hbkH.out b hb; have := hge _ q; omega)
  have hU4 : Ub (A + 2) V0 w4 := hUH.out.mv (Mv.below (E := fun _ => False) hb4) (fun q => q)
  have hld4 := hU4.load hvs
  have hgeH := hidP hge
  have b4H := hidP hb4
  have hU4H := hidP hU4
  clear hnew hG hge hS0 hb4 hU4 hst
  go_wp2_with (refine wpList_loadU rfl _ rfl _ rfl _ hld4 ?_)
  refine hadd.mono ?_
  rintro e w5 ⟨rfl, S', cs, hG5, hgo, _⟩
  have y0 : w5.cell? ⟨A + 2, 0, none⟩ = some (.string ⟨#[97, 46, 116, 105, 109, 101, 114]⟩) := hgo.mv.cell (a := ⟨A + 2, 0, none⟩) (fun q => by have := hgeH.out _ q; change X.heap.size ≤ A + 2 at this; omega) (hU4H.out 0 _ c0H.out)
  have h1 := has_any S' _ w5 hG5 5 ⟨#[97, 46, 116, 105, 109, 101, 114]⟩ sdn (by unfold okE; decide)
  have h2 := has_any S' _ w5 hG5 6 sdn ⟨#[97, 46, 116, 105, 109, 101, 114]⟩ (by unfold okE; decide)
  have h3 := has_any S' _ w5 hG5 6 ⟨#[97, 46, 116, 105, 109, 101, 114]⟩ bSv (by unfold okE; decide)
  have h4 := has_any S' _ w5 hG5 1 ⟨#[97, 46, 116, 105, 109, 101, 114]⟩ bSv (by unfold okE; decide)
  have k1 : decide (0 < kL [(cs, (unU ⟨#[97, 46, 116, 105, 109, 101, 114]⟩ 3 [bSv] [] (.slice (some ⟨A + 1, 0, none⟩) 1 1) nilV false ⟨#[]⟩))] (5, ⟨#[97, 46, 116, 105, 109, 101, 114]⟩, sdn)) = true := by rw [kL_one, tol_core]; decide +kernel
  have k2 : decide (0 < kL [(cs, (unU ⟨#[97, 46, 116, 105, 109, 101, 114]⟩ 3 [bSv] [] (.slice (some ⟨A + 1, 0, none⟩) 1 1) nilV false ⟨#[]⟩))] (6, sdn, ⟨#[97, 46, 116, 105, 109, 101, 114]⟩)) = true := by rw [kL_one, tol_core]; decide +kernel
  have k3 : decide (0 < kL [(cs, (unU ⟨#[97, 46, 116, 105, 109, 101, 114]⟩ 3 [bSv] [] (.slice (some ⟨A + 1, 0, none⟩) 1 1) nilV false ⟨#[]⟩))] (6, ⟨#[97, 46, 116, 105, 109, 101, 114]⟩, bSv)) = false := by rw [kL_one, tol_core]; decide +kernel
  have k4 : decide (0 < kL [(cs, (unU ⟨#[97, 46, 116, 105, 109, 101, 114]⟩ 3 [bSv] [] (.slice (some ⟨A + 1, 0, none⟩) 1 1) nilV false ⟨#[]⟩))] (1, ⟨#[97, 46, 116, 105, 109, 101, 114]⟩, bSv)) = true := by rw [kL_one, tol_core]; decide +kernel
  rw [k1, hgo.gb] at h1
  rw [k2, hgo.gb] at h2
  rw [k3, hgo.gb] at h3
  rw [k4, hgo.gb] at h4
  have fin : Hid (Below w.heap.size w w5) := ((b0H.out.trans (bXH.out.mono b0H.out.size)).trans (b4H.out.mono (by have := b0H.out.size; have := bXH.out.size; omega))).trans (hgo.mv.toBelow (by have := b0H.out.size; have := bXH.out.size; have := b4H.out.size; omega) (fun k hk q => by have := hgeH.out k q; have := b0H.out.size; omega))
  clear hadd hld4 hG5 hgo k1 k2 k3 k4
  go_wp2_with fail
  refine h1.mono ?_
  rintro e w6 ⟨rfl, hw6⟩
  replace hw6 := hw6.symm
  subst hw6
  go_wp2_with fail
  refine h2.mono ?_
  rintro e w6 ⟨rfl, hw6⟩
  replace hw6 := hw6.symm
  subst hw6
  go_wp2_with fail
  refine h3.mono ?_
  rintro e w6 ⟨rfl, hw6⟩
  replace hw6 := hw6.symm
  subst hw6
  go_wp2_with fail
  refine h4.mono ?_
  rintro e w6 ⟨rfl, hw6⟩
  replace hw6 := hw6.symm
  subst hw6
  go_wp2_with fail
  go_ret
  exact ⟨rfl, fin.out⟩
set_option maxRecDepth 100000 in
set_option maxHeartbeats 4000000 in
theorem defs_2_true (n : Nat) (hn : n < 256) (hk : n % 6 = 2) (w : World) (hg : GlN w) : Calls Tryd.prog 5 #[.int .u8 n, .bool true] w fun e w' => e = .returned (.bool true) ∧ Below w.heap.size w w' := by
  have hkn := known_any w hg
  have hgl := hidP hg
  have hkI : (n : Int) % 6 = 2 := by omega
  clear hg
  go_enter Tryd.func5, Tryd.ntmps5
  go_wp2_with fail
  refine hkn.mono ?_
  rintro e w0 ⟨rfl, hb0⟩
  have hg0 := hgl.out.below hb0
  have b0H := hidP hb0
  obtain ⟨A, hA⟩ : ∃ A, w0.heap.size = A := ⟨_, rfl⟩
  obtain ⟨W1, hW1⟩ : ∃ W1, w0.alloc (.cells #[.string ⟨#[97, 46, 115, 101, 114, 118, 105, 99, 101]⟩, .string ⟨#[97, 46, 115, 111, 99, 107, 101, 116]⟩, .string ⟨#[97, 46, 116, 105, 109, 101, 114]⟩, .string ⟨#[97, 46, 112, 97, 116, 104]⟩, .string ⟨#[97, 46, 109, 111, 117, 110, 116]⟩, .string ⟨#[97, 46, 116, 97, 114, 103, 101, 116]⟩] 46) = W1 := ⟨_, rfl⟩
  have b1 : Below w0.heap.size w0 W1 := by rw [← hW1]; exact (Below.refl _ _).alloc (Nat.le_refl _) _
  have s1 : W1.heap.size = A + 1 := by rw [← hW1]; simp [hA]
  have x1 : W1.cell? ⟨A, 2, none⟩ = some (.string ⟨#[97, 46, 116, 105, 109, 101, 114]⟩) := by rw [← hW1]; exact cell_at hA rfl
  obtain ⟨W2, hW2⟩ : ∃ W2, W1.alloc (.cells #[.string ⟨#[98, 46, 115, 101, 114, 118, 105, 99, 101]⟩] 9) = W2 := ⟨_, rfl⟩
  have b2 : Below W1.heap.size W1 W2 := by rw [← hW2]; exact (Below.refl _ _).alloc (Nat.le_refl _) _
  have s2 : W2.heap.size = A + 2 := by rw [← hW2]; simp [s1]
  have x2 : W2.cell? ⟨A + 1, 0, none⟩ = some (.string bSv) := by rw [← hW2]; exact cell_at s1 rfl
  obtain ⟨V0, hV0⟩ : ∃ V0, litU ⟨#[97, 46, 116, 105, 109, 101, 114]⟩ 3 (.slice (some ⟨A + 1, 0, none⟩) 1 1) nilV true ⟨#[]⟩ = V0 := ⟨_, rfl⟩
  have hu2 := lit_uv W2 ⟨#[97, 46, 116, 105, 109, 101, 114]⟩ 3 [bSv] [] (.slice (some ⟨A + 1, 0, none⟩) 1 1) nilV true ⟨#[]⟩ (NR.one1 x2) (.inl ⟨rfl, none, 0, rfl⟩)
  have hbk : ∀ b, ubk V0 b → b = A + 1 := fun b hb => by
    rw [← hV0] at hb
    rcases lit_ubk hb with r | r
    · simp [rbk] at r; exact r.symm
    · cases r
  rw [hV0] at hu2
  have hvs := hu2.sz
  obtain ⟨W3, hW3⟩ : ∃ W3, W2.alloc (.cells zuA 29) = W3 := ⟨_, rfl⟩
  obtain ⟨X, hst, hUX, hbX⟩ := fresh_store (W := W2) hu2.sz hu2.on zuA 29 rfl
  rw [hW3, s2] at hst
  rw [s2] at hUX
  have huX := hu2.below hbX
  have bX : Below w0.heap.size w0 X := (b1.trans (b2.mono (by omega))).trans (hbX.mono (by omega))
  have hgX := hg0.below bX
  have hlX := hUX.load hvs
  have lX : A + 3 ≤ X.heap.size := by have := cell_lt (hUX 0 _ hu2.c0); change A + 2 < _ at this; omega
  have hnew := new_any X
  have hUH := hidP hUX
  have huH := hidP huX
  have hgH := hidP hgX
  have bXH := hidP bX
  have hbkH := hidP hbk
  have c0H := hidP hu2.c0
  unfold zuA at hW3
  unfold litU at hV0
  clear hkn hb0 hg0 hgl b1 b2 x2 hu2 hUX hbX huX bX hgX hlX hbk
  go_wp2_with (first | rw [hV0] | rw [hW1] | rw [hW2] | rw [hW3] | refine wpList_storeU rfl _ _ rfl _ rfl _ rfl hvs hst ?_)
  refine hnew.mono ?_
  rintro e w4 ⟨S, rfl, hG, hge, hS0, hb4⟩
  have glt := hgH.out.lt
  have bs := bXH.out.size
  have hadd := add_new S [] V0 (unU ⟨#[97, 46, 116, 105, 109, 101, 114]⟩ 3 [bSv] [] (.slice (some ⟨A + 1, 0, none⟩) 1 1) nilV true ⟨#[]⟩) w4 hG (huH.out.below hb4) (show isN ⟨#[97, 46, 116, 105, 109, 101, 114]⟩ = true by decide +kernel) rfl (by decide) (by rw [rel_core]; decide +kernel) (by rw [tol_core, hS0]; decide +kernel) (hgH.out.below hb4) (fun q => by have := hge _ q; omega) (fun q => by have := hge _ q; omega) (fun b hb q => by have := hbkH.out b hb; have := hge _ q; omega)
  have hU4 : Ub (A + 2) V0 w4 := hUH.out.mv (Mv.below (E := fun _ => False) hb4) (fun q => q)
  have hld4 := hU4.load hvs
  have hgeH := hidP hge
  have b4H := hidP hb4
  have hU4H := hidP hU4
  clear hnew hG hge hS0 hb4 hU4 hst
  go_wp2_with (refine wpList_loadU rfl _ rfl _ rfl _ hld4 ?_)
  refine hadd.mono ?_
  rintro e w5 ⟨rfl, S', cs, hG5, hgo, _⟩
  have y0 : w5.cell? ⟨A + 2, 0, none⟩ = some (.string ⟨#[97, 46, 116, 105, 109, 101, 114]⟩) := hgo.mv.cell (a := ⟨A + 2, 0, none⟩) (fun q => by have := hgeH.out _ q; change X.heap.size ≤ A + 2 at this; omega) (hU4H.out 0 _ c0H.out)
  have h1 := has_any S' _ w5 hG5 5 ⟨#[97, 46, 116, 105, 109, 101, 114]⟩ sdn (by unfold okE; decide)
  have h2 := has_any S' _ w5 hG5 6 sdn ⟨#[97, 46, 116, 105, 109, 101, 114]⟩ (by unfold okE; decide)
  have h3 := has_any S' _ w5 hG5 6 ⟨#[97, 46, 116, 105, 109, 101, 114]⟩ bSv (by unfold okE; decide)
  have h4 := has_any S' _ w5 hG5 1 ⟨#[97, 46, 116, 105, 109, 101, 114]⟩ bSv (by unfold okE; decide)
  have k1 : decide (0 < kL [(cs, (unU ⟨#[97, 46, 116, 105, 109, 101, 114]⟩ 3 [bSv] [] (.slice (some ⟨A + 1, 0, none⟩) 1 1) nilV true ⟨#[]⟩))] (5, ⟨#[97, 46, 116, 105, 109, 101, 114]⟩, sdn)) = false := by rw [kL_one, tol_core]; decide +kernel
  have k2 : decide (0 < kL [(cs, (unU ⟨#[97, 46, 116, 105, 109, 101, 114]⟩ 3 [bSv] [] (.slice (some ⟨A + 1, 0, none⟩) 1 1) nilV true ⟨#[]⟩))] (6, sdn, ⟨#[97, 46, 116, 105, 109, 101, 114]⟩)) = false := by rw [kL_one, tol_core]; decide +kernel
  have k3 : decide (0 < kL [(cs, (unU ⟨#[97, 46, 116, 105, 109, 101, 114]⟩ 3 [bSv] [] (.slice (some ⟨A + 1, 0, none⟩) 1 1) nilV true ⟨#[]⟩))] (6, ⟨#[97, 46, 116, 105, 109, 101, 114]⟩, bSv)) = false := by rw [kL_one, tol_core]; decide +kernel
  have k4 : decide (0 < kL [(cs, (unU ⟨#[97, 46, 116, 105, 109, 101, 114]⟩ 3 [bSv] [] (.slice (some ⟨A + 1, 0, none⟩) 1 1) nilV true ⟨#[]⟩))] (1, ⟨#[97, 46, 116, 105, 109, 101, 114]⟩, bSv)) = true := by rw [kL_one, tol_core]; decide +kernel
  rw [k1, hgo.gb] at h1
  rw [k2, hgo.gb] at h2
  rw [k3, hgo.gb] at h3
  rw [k4, hgo.gb] at h4
  have fin : Hid (Below w.heap.size w w5) := ((b0H.out.trans (bXH.out.mono b0H.out.size)).trans (b4H.out.mono (by have := b0H.out.size; have := bXH.out.size; omega))).trans (hgo.mv.toBelow (by have := b0H.out.size; have := bXH.out.size; have := b4H.out.size; omega) (fun k hk q => by have := hgeH.out k q; have := b0H.out.size; omega))
  clear hadd hld4 hG5 hgo k1 k2 k3 k4
  go_wp2_with fail
  refine h1.mono ?_
  rintro e w6 ⟨rfl, hw6⟩
  replace hw6 := hw6.symm
  subst hw6
  go_wp2_with fail
  refine h2.mono ?_
  rintro e w6 ⟨rfl, hw6⟩
  replace hw6 := hw6.symm
  subst hw6
  go_wp2_with fail
  refine h3.mono ?_
  rintro e w6 ⟨rfl, hw6⟩
  replace hw6 := hw6.symm
  subst hw6
  go_wp2_with fail
  refine h4.mono ?_
  rintro e w6 ⟨rfl, hw6⟩
  replace hw6 := hw6.symm
  subst hw6
  go_wp2_with fail
  go_ret
  exact ⟨rfl, fin.out⟩
end Go.Proofs.YtcfclknfnadgcaaDoor
