/- The walk of FileDrops. -/
import Derived.Test.YtiinhfbfciccnaaDoorFD2B
import Derived.Test.YtiinhfbfciccnaaDoorL2B
import Derived.Deep.RegionHeld3
import Derived.Deep.AppendLies
import Derived.Deep.CutRange
namespace Go.Proofs.YtiinhfbfciccnaaDoor
open Go.RowKit Go.Shelf
theorem hidI {p : Prop} (h : p) : Hid p := h
theorem hidS {α : Type} {a b : α} (h : a = b) : Hid (b = a) := h.symm
theorem stepW_no {sec key : ByteArray} {acc : List ByteArray} {x : St} (h : ¬ (x.s = sec ∧ x.k = key)) : stepW sec key acc x = acc := if_neg h
theorem stepW_nil {sec key : ByteArray} {acc : List ByteArray} {x : St} (h1 : x.s = sec) (h2 : x.k = key) (h3 : x.v = ⟨#[]⟩) : stepW sec key acc x = [] := by unfold stepW; rw [if_pos ⟨h1, h2⟩, if_pos h3]
theorem stepW_add {sec key : ByteArray} {acc : List ByteArray} {x : St} (h1 : x.s = sec) (h2 : x.k = key) (h3 : ¬ x.v = ⟨#[]⟩) : stepW sec key acc x = acc ++ [x.v] := by unfold stepW; rw [if_pos ⟨h1, h2⟩, if_neg h3]
theorem secA_inj {p s : Nat} (hp : p < 2) (hs : s < 2) (h : secA p = secA s) : p = s := by
  have h1 : p = 0 ∨ p = 1 := by omega
  have h2 : s = 0 ∨ s = 1 := by omega
  rcases h1 with rfl | rfl <;> rcases h2 with rfl | rfl <;> first | rfl | exact absurd h (by decide)
theorem keyK_inj {p s : Nat} (hp : p < 2) (hs : s < 2) (h : keyK p = keyK s) : p = s := by
  have h1 : p = 0 ∨ p = 1 := by omega
  have h2 : s = 0 ∨ s = 1 := by omega
  rcases h1 with rfl | rfl <;> rcases h2 with rfl | rfl <;> first | rfl | exact absurd h (by decide)
theorem valZ_ne {r : Nat} (hr : r < 4) (h : ¬ r = 0) : ¬ valZ r = ⟨#[]⟩ := by
  have h1 : r = 1 ∨ r = 2 ∨ r = 3 := by omega
  rcases h1 with rfl | rfl | rfl <;> decide
theorem VBox.weak {E E' : Nat → Prop} {W : World} {b1 b2 b3 : Nat} {v : Value} {sec key : ByteArray} {l : List St} (h : VBox E W b1 b2 b3 v sec key l) (hE : ∀ k, E' k → E k) : VBox E' W b1 b2 b3 v sec key l := by
  refine ⟨h.c1, fun e => h.e1 (hE _ e), h.c2, fun e => h.e2 (hE _ e), h.c3, fun e => h.e3 (hE _ e), ?_⟩
  obtain ⟨a, cap, hv, hs⟩ := h.sl
  exact ⟨a, cap, hv, fun h0 => by obtain ⟨g, o, h1, h2, h3⟩ := hs h0; exact ⟨g, o, h1, fun e => h2 (hE _ e), h3⟩⟩
theorem mk3 (w : World) : (Instr.makeSlice 33 (.int .i64 3) (.int .i64 3)).run Tryd.prog w = .ok (.slice (some ⟨w.heap.size, 0, none⟩) 3 3) (w.alloc (.cells #[.slice none 0 0, .slice none 0 0, .slice none 0 0] 25)) := by kernel_rfl
set_option maxRecDepth 100000 in
set_option maxHeartbeats 16000000 in
theorem drops_walk (a : Option Addr) (b o len cap : Nat) (us : List Nat) (w : World) (hg : Mx w) (ha : 0 < len → a = some ⟨b, o, none⟩) (hul : us.length = len) (hc : ∀ (j u : Nat), us[j]? = some u → w.cell? ⟨b, o + j, none⟩ = some (.int .u8 u)) (hu : ∀ u ∈ us, u ≤ 255) (hl : len ≤ maxLen) :
    Calls Tryd.prog 6 #[.slice a len cap] w fun e w' => e = .returned (.bool true) ∧ Below w.heap.size w w' := by
  have hkn := known_any w hg
  have hknH : Hid (Calls Tryd.prog 7 #[] w fun e w' => e = .returned (.bool true) ∧ Below w.heap.size w w') := hkn
  have hl' : len ≤ 9223372036854775807 := by unfold maxLen at hl; omega
  clear hkn hl
  by_cases h40 : 40 < len
  · have h40I : (40 : Int) < (len : Int) := by omega
    clear hc hu hul
    go_enter Tryd.func6, Tryd.ntmps6
    go_wp2_with fail
    refine hknH.out.mono ?_
    rintro e w1 ⟨rfl, hb1⟩
    go_wp2_with fail
    go_ret
    exact ⟨rfl, hb1⟩
  have h40I : decide ((40 : Int) < (len : Int)) = false := by simp; omega
  have h40' : len ≤ 40 := by omega
  obtain ⟨i0, hinf, hz0, hz1, hz2⟩ := info_parts infoSt
  have hcH : Hid (∀ (j u : Nat), us[j]? = some u → w.cell? ⟨b, o + j, none⟩ = some (.int .u8 u)) := hc
  have hulH : Hid (us.length = len) := hul
  have huH : Hid (∀ u ∈ us, u ≤ 255) := hu
  clear hc hul hu hg h40
  go_enter Tryd.func6, Tryd.ntmps6
  go_wp2_with fail
  refine hknH.out.mono ?_
  rintro e w1 ⟨rfl, hb1⟩
  clear hknH
  have hmk := mk3
  obtain ⟨W0, hW0⟩ : ∃ W0, (w1.alloc (.cells #[.string ⟨#[]⟩, .string ⟨#[120]⟩, .string ⟨#[121]⟩, .string ⟨#[122]⟩] 54)).alloc (.cells #[.slice none 0 0, .slice none 0 0, .slice none 0 0] 25) = W0 := ⟨_, rfl⟩
  have hs0 : W0.heap.size = w1.heap.size + 2 := by rw [← hW0]; simp
  have m0 : ∀ F : Nat → Prop, Mv F w1 W0 := fun F => by rw [← hW0]; exact (Mv.alloc _ _ _).trans' (Mv.alloc _ _ _)
  have hFI : FI (w1.heap.size + 2) w1.heap.size (w1.heap.size + 1) (fun _ => []) (fun _ => .slice none 0 0) W0 := by
    rw [← hW0]
    refine ⟨fun p hp => ?_, fun j hj => ?_, fun j hj => ?_, fun j _ => World.ownsRow_nil _ _ _ _, fun i j _ _ _ g h => by simp [Value.ownBlock] at h⟩
    · refine (Mv.alloc (fun _ => False) _ _).cell (fun h => h) ?_
      have : p = 0 ∨ p = 1 ∨ p = 2 ∨ p = 3 := by omega
      rcases this with rfl | rfl | rfl | rfl <;> exact cell_at rfl rfl
    · have : j = 0 ∨ j = 1 ∨ j = 2 := by omega
      rcases this with rfl | rfl | rfl <;> exact cell_at (by simp) rfl
    · have h := fun k => World.frozen?_alloc_new (w1.alloc (.cells #[.string ⟨#[]⟩, .string ⟨#[120]⟩, .string ⟨#[121]⟩, .string ⟨#[122]⟩] 54)) #[.slice none 0 0, .slice none 0 0, .slice none 0 0] 25 k
      simp only [World.size_alloc] at h
      exact h j
  have hFIH : Hid (FI (w1.heap.size + 2) w1.heap.size (w1.heap.size + 1) (fun _ => []) (fun _ => .slice none 0 0) W0) := hFI
  clear hFI
  go_wp2_with (rw [hW0])
  clear hW0 hmk
  go_loopw [5] (fun i wr => ∃ (k : Nat) (qs : Nat → List St) (vs : Nat → Value), k ≤ len ∧ i = .int .i64 k ∧ Hid (FI (w1.heap.size + 2) w1.heap.size (w1.heap.size + 1) qs vs wr) ∧ Hid ((∀ j, (qs j).length ≤ k) ∧ (∀ j, (∀ i, i < k → i * 3 / len < j) → qs j = []) ∧ qs 0 ++ (qs 1 ++ qs 2) = (allU 0 us).take k) ∧ Below w1.heap.size w1 wr ∧ w1.heap.size + 2 ≤ wr.heap.size) (fun i _ => len - (intOf i).toNat)
  case atStart => exact ⟨0, _, _, by omega, rfl, hFIH, ⟨fun _ => by simp, fun _ _ => rfl, by simp⟩, (m0 (fun _ => False)).toBelow (Nat.le_refl _) (fun _ _ h => h), by omega⟩
  case round =>
    obtain ⟨k, qs, vs, hk, rfl, hFI, hqs, hb, hsz⟩ := hrel
    by_cases hlt : k < len
    · obtain ⟨u, hu⟩ : ∃ u, us[k]? = some u := ⟨_, List.getElem?_eq_getElem (by rw [hulH.out]; exact hlt)⟩
      have c1 := (hb1.cell (p := ⟨b, o + k, none⟩) (cell_lt (hcH.out k u hu))).trans (hcH.out k u hu)
      have hbl : b < w1.heap.size := cell_lt c1
      have cu := (hb.cell (p := ⟨b, o + k, none⟩) (cell_lt c1)).trans c1
      have hu255 := huH.out u (List.mem_of_getElem? hu)
      obtain rfl := ha (by omega)
      have hkI : (k : Int) < (len : Int) := by omega
      have hlI : (len : Int) ≤ 40 := by omega
      have hl0 : (len : Int) ≠ 0 := by omega
      obtain ⟨f, hf⟩ : ∃ f, k * 3 / len = f := ⟨_, rfl⟩
      have hfI : Int.tdiv ((k : Int) * 3) (len : Int) = (f : Int) := by rw [Int.tdiv_eq_ediv_of_nonneg (by omega), ← hf]; simp
      have hf3 : f < 3 := by rw [← hf]; exact (Nat.div_lt_iff_lt_mul (by omega)).2 (by omega)
      have hf3I : (f : Int) < 3 := by omega
      obtain ⟨p, hp⟩ : ∃ p, u / 4 % 2 = p := ⟨_, rfl⟩
      obtain ⟨q, hq⟩ : ∃ q, u / 8 % 2 = q := ⟨_, rfl⟩
      obtain ⟨r, hr⟩ : ∃ r, u % 4 = r := ⟨_, rfl⟩
      have hp2 : p < 2 := by omega
      have hq2 : q < 2 := by omega
      have hr4 : r < 4 := by omega
      have hw4 : IntKind.u8.wrap ((u : Int) / 4) = (u : Int) / 4 := by rw [IntKind.wrap_u8]; omega
      have hw8 : IntKind.u8.wrap ((u : Int) / 8) = (u : Int) / 8 := by rw [IntKind.wrap_u8]; omega
      have hpI : ((u : Int) / 4).tmod 2 = (p : Int) := by rw [Int.tmod_eq_emod_of_nonneg (by omega)]; omega
      have hqI : ((u : Int) / 8).tmod 2 = (q : Int) := by rw [Int.tmod_eq_emod_of_nonneg (by omega)]; omega
      have hrI : (u : Int).tmod 4 = (r : Int) := by rw [Int.tmod_eq_emod_of_nonneg (by omega)]; omega
      have hwp : IntKind.u8.wrap ((p : Int) + 1) = (p : Int) + 1 := by rw [IntKind.wrap_u8]; omega
      have hwq : IntKind.u8.wrap ((q : Int) + 1) = (q : Int) + 1 := by rw [IntKind.wrap_u8]; omega
      have hxu : Hid (stU k u = ⟨secA p, keyK q, valZ r, k⟩) := by show _ = _; rw [← hp, ← hq, ← hr]; rfl
      have hpJ : (p : Int) < 2 := by omega
      have hqJ : (q : Int) < 2 := by omega
      have hrJ : (r : Int) < 4 := by omega
      have hta : Hid ((allU 0 us).take (k + 1) = (allU 0 us).take k ++ [⟨secA p, keyK q, valZ r, k⟩]) := by show _ = _; rw [take_allU hu, hxu.out]
      have hqf : (qs f).length ≤ 40 := by have := hqs.out.1 f; omega
      have hnext : Hid ((∀ j, (put f (qs f ++ [⟨secA p, keyK q, valZ r, k⟩]) qs j).length ≤ k + 1) ∧ (∀ j, (∀ i, i < k + 1 → i * 3 / len < j) → put f (qs f ++ [⟨secA p, keyK q, valZ r, k⟩]) qs j = []) ∧ put f (qs f ++ [⟨secA p, keyK q, valZ r, k⟩]) qs 0 ++ (put f (qs f ++ [⟨secA p, keyK q, valZ r, k⟩]) qs 1 ++ put f (qs f ++ [⟨secA p, keyK q, valZ r, k⟩]) qs 2) = (allU 0 us).take (k + 1)) := by rw [hta.out]; exact three_put hf hf3 hqs.out
      clear hp hq hr hu hxu hta hqs
      obtain ⟨ao, nn, cc, hv⟩ := own_shape (hFI.out.o f hf3)
      have hcf := hFI.out.c f hf3
      rw [hv] at hcf
      have hff := hFI.out.f f hf3
      have hcz := hFI.out.z r hr4
      have hof := hFI.out.o f hf3
      rw [hv] at hof
      have nown : ∀ g, (Value.slice ao nn cc).ownBlock = some g → w1.heap.size + 2 ≤ g := fun g e => (hof.lt g e).1
      go_wp2_with fail
      have n1 : ¬ ((Value.slice ao nn cc).ownBlock = some b ∨ b = w1.heap.size + 1) := fun e => e.elim (fun e => by have := nown _ e; omega) (fun e => by omega)
      have n2 : ¬ ((Value.slice ao nn cc).ownBlock = some w1.heap.size ∨ w1.heap.size = w1.heap.size + 1) := fun e => e.elim (fun e => by have := nown _ e; omega) (fun e => by omega)
      have hall : ∀ w', Mv (fun g => (Value.slice ao nn cc).ownBlock = some g ∨ g = w1.heap.size + 1) wr w' → (w'.cell? ⟨b, o + k, none⟩ = some (.int .u8 u) ∧ w'.cell? ⟨w1.heap.size, r, none⟩ = some (.string (valZ r))) ∧ Hid (Mv (fun g => (Value.slice ao nn cc).ownBlock = some g ∨ g = w1.heap.size + 1) wr w') := fun w' m => ⟨⟨m.cell n1 cu, m.cell n2 hcz⟩, m⟩
      have hDA : ∀ c, Mv (fun g => (Value.slice ao nn cc).ownBlock = some g ∨ g = w1.heap.size + 1) wr (wr.alloc c).drew := fun c => (Mv.alloc _ _ _).trans' (Mv.drew _ _)
      have hX : Mv (fun _ => False) wr (wr.alloc (.cells #[.string (secA p), .string (keyK q), .string (valZ r), .int .i64 k] 44)).drew := (Mv.alloc _ _ _).trans' (Mv.drew _ _)
      have hcA := hX.cell (fun h => h) hcf
      have hoA := own_mv hof hX (fun _ _ h => h)
      have hbw : w1.heap.size + 2 ≤ (wr.alloc (.cells #[.string (secA p), .string (keyK q), .string (valZ r), .int .i64 k] 44)).drew.heap.size := Nat.le_trans hsz hX.size
      have hvs : ∀ (w3 : World) (v' : Value), (wr.alloc (.cells #[.string (secA p), .string (keyK q), .string (valZ r), .int .i64 k] 44)).drew.grownBy w3 (Value.slice ao nn cc).ownBlock → w3.ownsRow (w1.heap.size + 2) 44 4 v' ((qs f).length + 1) (stsC (qs f) ++ stC ⟨secA p, keyK q, valZ r, k⟩) → (v'.ownBlock = (Value.slice ao nn cc).ownBlock ∨ v'.ownBlock = some (wr.alloc (.cells #[.string (secA p), .string (keyK q), .string (valZ r), .int .i64 k] 44)).drew.heap.size) → w3.cell? ⟨w1.heap.size + 1, f, none⟩ = some (.slice ao nn cc) ∧ w3.frozen? ⟨w1.heap.size + 1, f, none⟩ = false ∧ FI (w1.heap.size + 2) w1.heap.size (w1.heap.size + 1) (put f (qs f ++ [⟨secA p, keyK q, valZ r, k⟩]) qs) (put f v' vs) (w3.setCell ⟨w1.heap.size + 1, f, none⟩ v') := fun w3 v' h1 h2 h3 => by rw [← hv] at h1 h3 ⊢; exact hFI.out.step (by omega) (by omega) (by omega) hf3 hX h1 h2 h3
      have hvsH := (show Hid _ from hvs)
      clear hvs
      have hbe : ∀ y, Mv (fun g => (Value.slice ao nn cc).ownBlock = some g ∨ g = w1.heap.size + 1) wr y → Below w1.heap.size w1 y ∧ w1.heap.size + 2 ≤ y.heap.size := fun y m => ⟨hb.trans (m.toBelow (by omega) (fun k hk e => e.elim (fun e => by have := nown _ e; omega) (fun e => by omega))), Nat.le_trans hsz m.size⟩
      have hr01 : r = 0 ∨ r = 1 ∨ r = 2 ∨ r = 3 := by omega
      have hp01 : p = 0 ∨ p = 1 := by omega
      have hq01 : q = 0 ∨ q = 1 := by omega
      refine wp_region_held_drew (S := (fun w' => (w'.cell? ⟨b, o + k, none⟩ = some (.int .u8 u) ∧ w'.cell? ⟨w1.heap.size, r, none⟩ = some (.string (valZ r))) ∧ Hid (Mv (fun g => (Value.slice ao nn cc).ownBlock = some g ∨ g = w1.heap.size + 1) wr w'))) (by kernel_rfl) (hall _ (Mv.drew _ _)) (fun hHeld => ?_)
      refine wpAnyH_take (i := 0) (oi := ⟨some 34, _, _, _, _, _⟩) (v := ?v0) rfl (by kernel_rfl) (by kernel_rfl) (by kernel_rfl) (fun _ _ _ h => h) (Or.inl ⟨by rfl, ?hy0⟩) (by assumption) ?_
      case hy0 => (intro w hSw; (try dsimp only at hSw); go_simp; try with_reducible rfl)
      simp only [Act.put, List.setIfInBounds_toArray, List.set_cons_zero, List.set_cons_succ]
      refine wpAnyH_take (i := 1) (oi := ⟨some 35, _, _, _, _, _⟩) (v := ?v1) rfl (by kernel_rfl) (by kernel_rfl) (by kernel_rfl) (fun _ _ _ h => h) (Or.inl ⟨by rfl, ?hy1⟩) (by assumption) ?_
      case hy1 => (intro w hSw; (try dsimp only at hSw); go_simp; try with_reducible rfl)
      simp only [Act.put, List.setIfInBounds_toArray, List.set_cons_zero, List.set_cons_succ]
      refine wpAnyH_take (i := 2) (oi := ⟨some 36, _, _, _, _, _⟩) (v := ?v2) rfl (by kernel_rfl) (by kernel_rfl) (by kernel_rfl) (fun _ _ _ h => h) (Or.inl ⟨by rfl, ?hy2⟩) (by assumption) ?_
      case hy2 => (intro w hSw; (try dsimp only at hSw); go_simp; try with_reducible rfl)
      simp only [Act.put, List.setIfInBounds_toArray, List.set_cons_zero, List.set_cons_succ]
      refine wpAnyH_take (i := 3) (oi := ⟨some 37, _, _, _, _, _⟩) (v := ?v3) rfl (by kernel_rfl) (by kernel_rfl) (by kernel_rfl) (fun _ _ _ h => h) (Or.inl ⟨by rfl, ?hy3⟩) (by assumption) ?_
      case hy3 => (intro w hSw; (try dsimp only at hSw); go_simp; try with_reducible rfl)
      simp only [Act.put, List.setIfInBounds_toArray, List.set_cons_zero, List.set_cons_succ]
      refine wpAnyH_take (i := 4) (oi := ⟨some 38, _, _, _, _, _⟩) (v := ?v4) rfl (by kernel_rfl) (by kernel_rfl) (by kernel_rfl) (fun _ _ _ h => h) (Or.inl ⟨by rfl, ?hy4⟩) (by assumption) ?_
      case hy4 => (intro w hSw; (try dsimp only at hSw); go_simp; try with_reducible rfl)
      simp only [Act.put, List.setIfInBounds_toArray, List.set_cons_zero, List.set_cons_succ]
      refine wpAnyH_take (i := 5) (oi := ⟨some 39, _, _, _, _, _⟩) (v := ?v5) rfl (by kernel_rfl) (by kernel_rfl) (by kernel_rfl) (fun _ _ _ h => h) (Or.inl ⟨by rfl, ?hy5⟩) (by assumption) ?_
      case hy5 => (intro w hSw; (try dsimp only at hSw); go_simp; try with_reducible rfl)
      simp only [Act.put, List.setIfInBounds_toArray, List.set_cons_zero, List.set_cons_succ]
      refine wpAnyH_take (i := 7) (oi := ⟨some 41, _, _, _, _, _⟩) (v := ?v7) rfl (by kernel_rfl) (by kernel_rfl) (by kernel_rfl) (fun _ _ _ h => h) (Or.inl ⟨by rfl, ?hy7⟩) (by assumption) ?_
      case hy7 => (intro w hSw; (try dsimp only at hSw); go_simp; try with_reducible rfl)
      simp only [Act.put, List.setIfInBounds_toArray, List.set_cons_zero, List.set_cons_succ]
      refine wpAnyH_take (i := 8) (oi := ⟨some 42, _, _, _, _, _⟩) (v := ?v8) rfl (by kernel_rfl) (by kernel_rfl) (by kernel_rfl) (fun _ _ _ h => h) (Or.inl ⟨by rfl, ?hy8⟩) (by assumption) ?_
      case hy8 => (intro w hSw; (try dsimp only at hSw); go_simp; try with_reducible rfl)
      simp only [Act.put, List.setIfInBounds_toArray, List.set_cons_zero, List.set_cons_succ]
      refine wpAnyH_take (i := 9) (oi := ⟨some 43, _, _, _, _, _⟩) (v := ?v9) rfl (by kernel_rfl) (by kernel_rfl) (by kernel_rfl) (fun _ _ _ h => h) (Or.inl ⟨by rfl, ?hy9⟩) (by assumption) ?_
      case hy9 => (intro w hSw; (try dsimp only at hSw); go_simp; try with_reducible rfl)
      simp only [Act.put, List.setIfInBounds_toArray, List.set_cons_zero, List.set_cons_succ]
      refine wpAnyH_take (i := 10) (oi := ⟨some 44, _, _, _, _, _⟩) (v := ?v10) rfl (by kernel_rfl) (by kernel_rfl) (by kernel_rfl) (fun _ _ _ h => h) (Or.inl ⟨by rfl, ?hy10⟩) (by assumption) ?_
      case hy10 => (intro w hSw; (try dsimp only at hSw); go_simp; try with_reducible rfl)
      simp only [Act.put, List.setIfInBounds_toArray, List.set_cons_zero, List.set_cons_succ]
      refine wpAnyH_take (i := 11) (oi := ⟨some 45, _, _, _, _, _⟩) (v := ?v11) rfl (by kernel_rfl) (by kernel_rfl) (by kernel_rfl) (fun _ _ _ h => h) (Or.inl ⟨by rfl, ?hy11⟩) (by assumption) ?_
      case hy11 => (intro w hSw; (try dsimp only at hSw); go_simp; try with_reducible rfl)
      simp only [Act.put, List.setIfInBounds_toArray, List.set_cons_zero, List.set_cons_succ]
      refine wpAnyH_take (i := 12) (oi := ⟨some 46, _, _, _, _, _⟩) (v := ?v12) rfl (by kernel_rfl) (by kernel_rfl) (by kernel_rfl) (fun _ _ _ h => h) (Or.inl ⟨by rfl, ?hy12⟩) (by assumption) ?_
      case hy12 => (intro w hSw; (try dsimp only at hSw); go_simp; try with_reducible rfl)
      simp only [Act.put, List.setIfInBounds_toArray, List.set_cons_zero, List.set_cons_succ]
      refine wpAnyH_take (i := 13) (oi := ⟨some 47, _, _, _, _, _⟩) (v := ?v13) rfl (by kernel_rfl) (by kernel_rfl) (by kernel_rfl) (fun _ _ _ h => h) (Or.inl ⟨by rfl, ?hy13⟩) (by assumption) ?_
      case hy13 => (intro w hSw; (try dsimp only at hSw); go_simp; try with_reducible rfl)
      simp only [Act.put, List.setIfInBounds_toArray, List.set_cons_zero, List.set_cons_succ]
      refine wpAnyH_take (i := 14) (oi := ⟨some 48, _, _, _, _, _⟩) (v := ?v14) rfl (by kernel_rfl) (by kernel_rfl) (by kernel_rfl) (fun _ _ _ h => h) (Or.inl ⟨by rfl, ?hy14⟩) (by assumption) ?_
      case hy14 => (intro w hSw; (try dsimp only at hSw); go_simp; try with_reducible rfl)
      simp only [Act.put, List.setIfInBounds_toArray, List.set_cons_zero, List.set_cons_succ]
      refine wpAnyH_take (i := 15) (oi := ⟨some 49, _, _, _, _, _⟩) (v := ?v15) rfl (by kernel_rfl) (by kernel_rfl) (by kernel_rfl) (fun _ _ _ h => h) (Or.inl ⟨by rfl, ?hy15⟩) (by assumption) ?_
      case hy15 => (intro w hSw; (try dsimp only at hSw); go_simp; try with_reducible rfl)
      simp only [Act.put, List.setIfInBounds_toArray, List.set_cons_zero, List.set_cons_succ]
      refine wpAnyH_take (i := 16) (oi := ⟨some 50, _, _, _, _, _⟩) (v := ?v16) rfl (by kernel_rfl) (by kernel_rfl) (by kernel_rfl) (fun _ _ _ h => h) (Or.inl ⟨by rfl, ?hy16⟩) (by assumption) ?_
      case hy16 => (intro w hSw; (try dsimp only at hSw); go_simp; try with_reducible rfl)
      simp only [Act.put, List.setIfInBounds_toArray, List.set_cons_zero, List.set_cons_succ]
      refine wpAnyH_take (i := 17) (oi := ⟨some 51, _, _, _, _, _⟩) (v := ?v17) rfl (by kernel_rfl) (by kernel_rfl) (by kernel_rfl) (fun _ _ _ h => h) (Or.inl ⟨by rfl, ?hy17⟩) (by assumption) ?_
      case hy17 => (intro w hSw; (try dsimp only at hSw); go_simp; try with_reducible rfl)
      simp only [Act.put, List.setIfInBounds_toArray, List.set_cons_zero, List.set_cons_succ]
      refine wpAnyH_take (i := 18) (oi := ⟨some 52, _, _, _, _, _⟩) (v := ?v18) rfl (by kernel_rfl) (by kernel_rfl) (by kernel_rfl) (fun _ _ _ h => h) (Or.inl ⟨by rfl, ?hy18⟩) (by assumption) ?_
      case hy18 => (intro w hSw; (try dsimp only at hSw); go_simp; try with_reducible rfl)
      simp only [Act.put, List.setIfInBounds_toArray, List.set_cons_zero, List.set_cons_succ]
      refine wpAnyH_take (i := 19) (oi := ⟨some 53, _, _, _, _, _⟩) (v := ?v19) rfl (by kernel_rfl) (by kernel_rfl) (by kernel_rfl) (fun _ _ _ h => h) (Or.inl ⟨by rfl, ?hy19⟩) (by assumption) ?_
      case hy19 => (intro w hSw; (try dsimp only at hSw); go_simp; try with_reducible rfl)
      simp only [Act.put, List.setIfInBounds_toArray, List.set_cons_zero, List.set_cons_succ]
      refine wpAnyH_take (i := 20) (oi := ⟨some 54, _, _, _, _, _⟩) (v := .string (secA p)) rfl (by kernel_rfl) (by kernel_rfl) (by kernel_rfl) (fun _ _ _ h => h) (Or.inl ⟨by rfl, ?hy20⟩) (by assumption) ?_
      case hy20 => (intro w hSw; (try dsimp only at hSw); rcases hp01 with rfl | rfl <;> go_simp <;> first | rfl | decide; try with_reducible rfl)
      simp only [Act.put, List.setIfInBounds_toArray, List.set_cons_zero, List.set_cons_succ]
      refine wpAnyH_take (i := 21) (oi := ⟨some 55, _, _, _, _, _⟩) (v := ?v21) rfl (by kernel_rfl) (by kernel_rfl) (by kernel_rfl) (fun _ _ _ h => h) (Or.inl ⟨by rfl, ?hy21⟩) (by assumption) ?_
      case hy21 => (intro w hSw; (try dsimp only at hSw); go_simp; try with_reducible rfl)
      simp only [Act.put, List.setIfInBounds_toArray, List.set_cons_zero, List.set_cons_succ]
      refine wpAnyH_take (i := 22) (oi := ⟨some 56, _, _, _, _, _⟩) (v := ?v22) rfl (by kernel_rfl) (by kernel_rfl) (by kernel_rfl) (fun _ _ _ h => h) (Or.inl ⟨by rfl, ?hy22⟩) (by assumption) ?_
      case hy22 => (intro w hSw; (try dsimp only at hSw); go_simp; try with_reducible rfl)
      simp only [Act.put, List.setIfInBounds_toArray, List.set_cons_zero, List.set_cons_succ]
      refine wpAnyH_take (i := 23) (oi := ⟨some 57, _, _, _, _, _⟩) (v := ?v23) rfl (by kernel_rfl) (by kernel_rfl) (by kernel_rfl) (fun _ _ _ h => h) (Or.inl ⟨by rfl, ?hy23⟩) (by assumption) ?_
      case hy23 => (intro w hSw; (try dsimp only at hSw); go_simp; try with_reducible rfl)
      simp only [Act.put, List.setIfInBounds_toArray, List.set_cons_zero, List.set_cons_succ]
      refine wpAnyH_take (i := 24) (oi := ⟨some 58, _, _, _, _, _⟩) (v := ?v24) rfl (by kernel_rfl) (by kernel_rfl) (by kernel_rfl) (fun _ _ _ h => h) (Or.inl ⟨by rfl, ?hy24⟩) (by assumption) ?_
      case hy24 => (intro w hSw; (try dsimp only at hSw); go_simp; try with_reducible rfl)
      simp only [Act.put, List.setIfInBounds_toArray, List.set_cons_zero, List.set_cons_succ]
      refine wpAnyH_take (i := 25) (oi := ⟨some 59, _, _, _, _, _⟩) (v := ?v25) rfl (by kernel_rfl) (by kernel_rfl) (by kernel_rfl) (fun _ _ _ h => h) (Or.inl ⟨by rfl, ?hy25⟩) (by assumption) ?_
      case hy25 => (intro w hSw; (try dsimp only at hSw); go_simp; try with_reducible rfl)
      simp only [Act.put, List.setIfInBounds_toArray, List.set_cons_zero, List.set_cons_succ]
      refine wpAnyH_take (i := 26) (oi := ⟨some 60, _, _, _, _, _⟩) (v := ?v26) rfl (by kernel_rfl) (by kernel_rfl) (by kernel_rfl) (fun _ _ _ h => h) (Or.inl ⟨by rfl, ?hy26⟩) (by assumption) ?_
      case hy26 => (intro w hSw; (try dsimp only at hSw); go_simp; try with_reducible rfl)
      simp only [Act.put, List.setIfInBounds_toArray, List.set_cons_zero, List.set_cons_succ]
      refine wpAnyH_take (i := 27) (oi := ⟨some 61, _, _, _, _, _⟩) (v := ?v27) rfl (by kernel_rfl) (by kernel_rfl) (by kernel_rfl) (fun _ _ _ h => h) (Or.inl ⟨by rfl, ?hy27⟩) (by assumption) ?_
      case hy27 => (intro w hSw; (try dsimp only at hSw); go_simp; try with_reducible rfl)
      simp only [Act.put, List.setIfInBounds_toArray, List.set_cons_zero, List.set_cons_succ]
      refine wpAnyH_take (i := 28) (oi := ⟨some 62, _, _, _, _, _⟩) (v := ?v28) rfl (by kernel_rfl) (by kernel_rfl) (by kernel_rfl) (fun _ _ _ h => h) (Or.inl ⟨by rfl, ?hy28⟩) (by assumption) ?_
      case hy28 => (intro w hSw; (try dsimp only at hSw); go_simp; try with_reducible rfl)
      simp only [Act.put, List.setIfInBounds_toArray, List.set_cons_zero, List.set_cons_succ]
      refine wpAnyH_take (i := 29) (oi := ⟨some 63, _, _, _, _, _⟩) (v := ?v29) rfl (by kernel_rfl) (by kernel_rfl) (by kernel_rfl) (fun _ _ _ h => h) (Or.inl ⟨by rfl, ?hy29⟩) (by assumption) ?_
      case hy29 => (intro w hSw; (try dsimp only at hSw); go_simp; try with_reducible rfl)
      simp only [Act.put, List.setIfInBounds_toArray, List.set_cons_zero, List.set_cons_succ]
      refine wpAnyH_take (i := 30) (oi := ⟨some 64, _, _, _, _, _⟩) (v := ?v30) rfl (by kernel_rfl) (by kernel_rfl) (by kernel_rfl) (fun _ _ _ h => h) (Or.inl ⟨by rfl, ?hy30⟩) (by assumption) ?_
      case hy30 => (intro w hSw; (try dsimp only at hSw); go_simp; try with_reducible rfl)
      simp only [Act.put, List.setIfInBounds_toArray, List.set_cons_zero, List.set_cons_succ]
      refine wpAnyH_take (i := 31) (oi := ⟨some 65, _, _, _, _, _⟩) (v := ?v31) rfl (by kernel_rfl) (by kernel_rfl) (by kernel_rfl) (fun _ _ _ h => h) (Or.inl ⟨by rfl, ?hy31⟩) (by assumption) ?_
      case hy31 => (intro w hSw; (try dsimp only at hSw); go_simp; try with_reducible rfl)
      simp only [Act.put, List.setIfInBounds_toArray, List.set_cons_zero, List.set_cons_succ]
      refine wpAnyH_take (i := 32) (oi := ⟨some 66, _, _, _, _, _⟩) (v := ?v32) rfl (by kernel_rfl) (by kernel_rfl) (by kernel_rfl) (fun _ _ _ h => h) (Or.inl ⟨by rfl, ?hy32⟩) (by assumption) ?_
      case hy32 => (intro w hSw; (try dsimp only at hSw); go_simp; try with_reducible rfl)
      simp only [Act.put, List.setIfInBounds_toArray, List.set_cons_zero, List.set_cons_succ]
      refine wpAnyH_take (i := 33) (oi := ⟨some 67, _, _, _, _, _⟩) (v := ?v33) rfl (by kernel_rfl) (by kernel_rfl) (by kernel_rfl) (fun _ _ _ h => h) (Or.inl ⟨by rfl, ?hy33⟩) (by assumption) ?_
      case hy33 => (intro w hSw; (try dsimp only at hSw); go_simp; try with_reducible rfl)
      simp only [Act.put, List.setIfInBounds_toArray, List.set_cons_zero, List.set_cons_succ]
      refine wpAnyH_take (i := 34) (oi := ⟨some 68, _, _, _, _, _⟩) (v := .string (keyK q)) rfl (by kernel_rfl) (by kernel_rfl) (by kernel_rfl) (fun _ _ _ h => h) (Or.inl ⟨by rfl, ?hy34⟩) (by assumption) ?_
      case hy34 => (intro w hSw; (try dsimp only at hSw); rcases hq01 with rfl | rfl <;> go_simp <;> first | rfl | decide; try with_reducible rfl)
      simp only [Act.put, List.setIfInBounds_toArray, List.set_cons_zero, List.set_cons_succ]
      refine wpAnyH_take (i := 35) (oi := ⟨some 69, _, _, _, _, _⟩) (v := ?v35) rfl (by kernel_rfl) (by kernel_rfl) (by kernel_rfl) (fun _ _ _ h => h) (Or.inl ⟨by rfl, ?hy35⟩) (by assumption) ?_
      case hy35 => (intro w hSw; (try dsimp only at hSw); go_simp; try with_reducible rfl)
      simp only [Act.put, List.setIfInBounds_toArray, List.set_cons_zero, List.set_cons_succ]
      refine wpAnyH_take (i := 36) (oi := ⟨some 70, _, _, _, _, _⟩) (v := ?v36) rfl (by kernel_rfl) (by kernel_rfl) (by kernel_rfl) (fun _ _ _ h => h) (Or.inl ⟨by rfl, ?hy36⟩) (by assumption) ?_
      case hy36 => (intro w hSw; (try dsimp only at hSw); go_simp; try with_reducible rfl)
      simp only [Act.put, List.setIfInBounds_toArray, List.set_cons_zero, List.set_cons_succ]
      refine wpAnyH_take (i := 37) (oi := ⟨some 71, _, _, _, _, _⟩) (v := ?v37) rfl (by kernel_rfl) (by kernel_rfl) (by kernel_rfl) (fun _ _ _ h => h) (Or.inl ⟨by rfl, ?hy37⟩) (by assumption) ?_
      case hy37 => (intro w hSw; (try dsimp only at hSw); go_simp; try with_reducible rfl)
      simp only [Act.put, List.setIfInBounds_toArray, List.set_cons_zero, List.set_cons_succ]
      refine wpAnyH_take (i := 38) (oi := ⟨some 72, _, _, _, _, _⟩) (v := ?v38) rfl (by kernel_rfl) (by kernel_rfl) (by kernel_rfl) (fun _ _ _ h => h) (Or.inl ⟨by rfl, ?hy38⟩) (by assumption) ?_
      case hy38 => (intro w hSw; (try dsimp only at hSw); go_simp; try with_reducible rfl)
      simp only [Act.put, List.setIfInBounds_toArray, List.set_cons_zero, List.set_cons_succ]
      refine wpAnyH_take (i := 39) (oi := ⟨some 73, _, _, _, _, _⟩) (v := ?v39) rfl (by kernel_rfl) (by kernel_rfl) (by kernel_rfl) (fun _ _ _ h => h) (Or.inl ⟨by rfl, ?hy39⟩) (by assumption) ?_
      case hy39 => (intro w hSw; (try dsimp only at hSw); go_simp; try with_reducible rfl)
      simp only [Act.put, List.setIfInBounds_toArray, List.set_cons_zero, List.set_cons_succ]
      refine wpAnyH_take (i := 40) (oi := ⟨some 74, _, _, _, _, _⟩) (v := .pointer (some ⟨w1.heap.size, r, none⟩)) rfl (by kernel_rfl) (by kernel_rfl) (by kernel_rfl) (fun _ _ _ h => h) (Or.inl ⟨by rfl, ?hy40⟩) (by assumption) ?_
      case hy40 => (intro w hSw; (try dsimp only at hSw); rcases hr01 with rfl | rfl | rfl | rfl <;> go_simp; try with_reducible rfl)
      simp only [Act.put, List.setIfInBounds_toArray, List.set_cons_zero, List.set_cons_succ]
      refine wpAnyH_take (i := 41) (oi := ⟨some 75, _, _, _, _, _⟩) (v := ?v41) rfl (by kernel_rfl) (by kernel_rfl) (by kernel_rfl) (fun _ _ _ h => h) (Or.inl ⟨by rfl, ?hy41⟩) (by assumption) ?_
      case hy41 => (intro w hSw; (try dsimp only at hSw); go_simp; try with_reducible rfl)
      simp only [Act.put, List.setIfInBounds_toArray, List.set_cons_zero, List.set_cons_succ]
      refine wpAnyH_take (i := 42) (oi := ⟨some 76, _, _, _, _, _⟩) (v := ?v42) rfl (by kernel_rfl) (by kernel_rfl) (by kernel_rfl) (fun _ _ _ h => h) (Or.inl ⟨by rfl, ?hy42⟩) (by assumption) ?_
      case hy42 => (intro w hSw; (try dsimp only at hSw); go_simp; try with_reducible rfl)
      simp only [Act.put, List.setIfInBounds_toArray, List.set_cons_zero, List.set_cons_succ]
      refine wpAnyH_take (i := 43) (oi := ⟨some 77, _, _, _, _, _⟩) (v := ?v43) rfl (by kernel_rfl) (by kernel_rfl) (by kernel_rfl) (fun _ _ _ h => h) (Or.inl ⟨by rfl, ?hy43⟩) (by assumption) ?_
      case hy43 => (intro w hSw; (try dsimp only at hSw); go_simp; try with_reducible rfl)
      simp only [Act.put, List.setIfInBounds_toArray, List.set_cons_zero, List.set_cons_succ]
      refine wpAnyH_ready (rs := [6, 44]) (by kernel_rfl) (by simp) ?_
      refine AllReadyH.cons (o := ⟨some 40, _, _, _, _, _⟩) rfl (fun K hK => ?_) ?_
      · go_simp
        refine hK.out _ _ (hall _ (Mv.drew _ _)) (fun _ => ?_)
        clear hK K
        refine wpAnyH_ready (rs := [44]) (by kernel_rfl) (by simp) ?_
        refine AllReadyH.cons (o := ⟨some 78, _, _, _, _, _⟩) rfl (fun K hK => ?_) AllReadyH.nil
        go_simp
        refine hK.out _ _ (hall _ (hDA _)) (fun _ => ?_)
        clear hK K
        refine wpAnyH_ready (rs := [45]) (by kernel_rfl) (by simp) ?_
        refine AllReadyH.cons (o := ⟨some 79, _, _, _, _, _⟩) rfl (fun K hK => ?_) AllReadyH.nil
        refine step_append_lies _ (by rfl) _ _ _ (by rfl) (w1.heap.size + 2) 44 i0 _ 4 56 Tryd.underlying23 hinf hz0 hz1 hz2 rfl (by omega) _ _ _ (by rfl) hoA ⟨_, 0, none⟩ 1 1 [_, _, _, _] (by rfl) (by rfl) (World.news_of_block (cs := #[_, _, _, _]) (t := 44) (fr := (0, 0)) (heap_alloc_new _ _)) (by simp [Value.oneCell']) (by omega) (by unfold maxLen; omega) (by omega) hbw _ rfl ?_
        intro g' cap' w3 hown' hgrow hat hlt'
        obtain ⟨q1, q2, hFI3⟩ := hvsH.out w3 _ hgrow hown' (hat.imp (fun e => e.symm) (fun e => by rw [e]; rfl))
        have hFI3H := (show Hid _ from hFI3)
        clear hFI3
        have mg : Mv (fun g => (Value.slice ao nn cc).ownBlock = some g ∨ g = w1.heap.size + 1) wr w3 := (hDA _).grown hgrow (fun k e => .inl (.inl e))
        have hm3 := hall _ mg
        refine hK.out _ _ hm3 (fun _ => ?_)
        clear hK K
        simp only [Act.put, List.setIfInBounds_toArray, List.set_cons_zero, List.set_cons_succ]
        refine wpAnyH_take (i := 46) (oi := ⟨some 80, _, _, _, _, _⟩) (v := ?v46) rfl (by kernel_rfl) (by kernel_rfl) (by kernel_rfl) (fun _ _ _ h => h) (Or.inl ⟨by rfl, ?hy46⟩) (by assumption) ?_
        case hy46 => (intro w hSw; (try dsimp only at hSw); go_simp; try with_reducible rfl)
        simp only [Act.put, List.setIfInBounds_toArray, List.set_cons_zero, List.set_cons_succ]
        refine wpAnyH_take (i := 47) (oi := ⟨some 81, _, _, _, _, _⟩) (v := ?v47) rfl (by kernel_rfl) (by kernel_rfl) (by kernel_rfl) (fun _ _ _ h => h) (Or.inl ⟨by rfl, ?hy47⟩) (by assumption) ?_
        case hy47 => (intro w hSw; (try dsimp only at hSw); go_simp; try with_reducible rfl)
        simp only [Act.put, List.setIfInBounds_toArray, List.set_cons_zero, List.set_cons_succ]
        refine wpAnyH_ready (rs := [48]) (by kernel_rfl) (by simp) ?_
        refine AllReadyH.cons (o := ⟨none, _, _, _, _, _⟩) rfl (fun K hK => ?_) AllReadyH.nil
        go_simp
        refine hK.out _ _ (hall _ (mg.setc (p := ⟨w1.heap.size + 1, f, none⟩) (.inl (.inr rfl)) _)) (fun _ => ?_)
        clear hK K
        refine wpAnyH_done (by kernel_rfl) ?_ _
        go_wp2_with fail
        obtain ⟨hb', hz'⟩ := hbe _ (mg.setc (p := ⟨w1.heap.size + 1, f, none⟩) (.inl (.inr rfl)) (.slice (some ⟨g', 0, none⟩) ((qs f).length + 1) cap'))
        exact ⟨⟨k + 1, _, _, by omega, by go_num, hFI3H, hnext, hb', hz'⟩, by simp [intOf]; omega⟩
      refine AllReadyH.cons (o := ⟨some 78, _, _, _, _, _⟩) rfl (fun K hK => ?_) AllReadyH.nil
      · go_simp
        refine hK.out _ _ (hall _ (hDA _)) (fun _ => ?_)
        clear hK K
        refine wpAnyH_ready (rs := [6]) (by kernel_rfl) (by simp) ?_
        refine AllReadyH.cons (o := ⟨some 40, _, _, _, _, _⟩) rfl (fun K hK => ?_) AllReadyH.nil
        go_simp
        refine hK.out _ _ (hall _ (hDA _)) (fun _ => ?_)
        clear hK K
        refine wpAnyH_ready (rs := [45]) (by kernel_rfl) (by simp) ?_
        refine AllReadyH.cons (o := ⟨some 79, _, _, _, _, _⟩) rfl (fun K hK => ?_) AllReadyH.nil
        refine step_append_lies _ (by rfl) _ _ _ (by rfl) (w1.heap.size + 2) 44 i0 _ 4 56 Tryd.underlying23 hinf hz0 hz1 hz2 rfl (by omega) _ _ _ (by rfl) hoA ⟨_, 0, none⟩ 1 1 [_, _, _, _] (by rfl) (by rfl) (World.news_of_block (cs := #[_, _, _, _]) (t := 44) (fr := (0, 0)) (heap_alloc_new _ _)) (by simp [Value.oneCell']) (by omega) (by unfold maxLen; omega) (by omega) hbw _ rfl ?_
        intro g' cap' w3 hown' hgrow hat hlt'
        obtain ⟨q1, q2, hFI3⟩ := hvsH.out w3 _ hgrow hown' (hat.imp (fun e => e.symm) (fun e => by rw [e]; rfl))
        have hFI3H := (show Hid _ from hFI3)
        clear hFI3
        have mg : Mv (fun g => (Value.slice ao nn cc).ownBlock = some g ∨ g = w1.heap.size + 1) wr w3 := (hDA _).grown hgrow (fun k e => .inl (.inl e))
        have hm3 := hall _ mg
        refine hK.out _ _ hm3 (fun _ => ?_)
        clear hK K
        simp only [Act.put, List.setIfInBounds_toArray, List.set_cons_zero, List.set_cons_succ]
        refine wpAnyH_take (i := 46) (oi := ⟨some 80, _, _, _, _, _⟩) (v := ?v46) rfl (by kernel_rfl) (by kernel_rfl) (by kernel_rfl) (fun _ _ _ h => h) (Or.inl ⟨by rfl, ?hy46⟩) (by assumption) ?_
        case hy46 => (intro w hSw; (try dsimp only at hSw); go_simp; try with_reducible rfl)
        simp only [Act.put, List.setIfInBounds_toArray, List.set_cons_zero, List.set_cons_succ]
        refine wpAnyH_take (i := 47) (oi := ⟨some 81, _, _, _, _, _⟩) (v := ?v47) rfl (by kernel_rfl) (by kernel_rfl) (by kernel_rfl) (fun _ _ _ h => h) (Or.inl ⟨by rfl, ?hy47⟩) (by assumption) ?_
        case hy47 => (intro w hSw; (try dsimp only at hSw); go_simp; try with_reducible rfl)
        simp only [Act.put, List.setIfInBounds_toArray, List.set_cons_zero, List.set_cons_succ]
        refine wpAnyH_ready (rs := [48]) (by kernel_rfl) (by simp) ?_
        refine AllReadyH.cons (o := ⟨none, _, _, _, _, _⟩) rfl (fun K hK => ?_) AllReadyH.nil
        go_simp
        refine hK.out _ _ (hall _ (mg.setc (p := ⟨w1.heap.size + 1, f, none⟩) (.inl (.inr rfl)) _)) (fun _ => ?_)
        clear hK K
        refine wpAnyH_done (by kernel_rfl) ?_ _
        go_wp2_with fail
        obtain ⟨hb', hz'⟩ := hbe _ (mg.setc (p := ⟨w1.heap.size + 1, f, none⟩) (.inl (.inr rfl)) (.slice (some ⟨g', 0, none⟩) ((qs f).length + 1) cap'))
        exact ⟨⟨k + 1, _, _, by omega, by go_num, hFI3H, hnext, hb', hz'⟩, by simp [intOf]; omega⟩
    · obtain rfl : k = len := by omega
      have hkI : ¬ ((k : Int) < (k : Int)) := by omega
      obtain ⟨M, hM⟩ : ∃ M, (allU 0 us).foldl stepR [] = M := ⟨_, rfl⟩
      have hML : M.length ≤ 40 := by
        rw [← hM]
        have := stepR_len (allU 0 us) []
        rw [allU_len, hulH.out] at this
        simp only [List.length_nil] at this; omega
      have hall3 : qs 0 ++ (qs 1 ++ qs 2) = allU 0 us := by rw [hqs.out.2.2, List.take_of_length_le (by rw [allU_len, hulH.out]; omega)]
      have hfl : flatR (bk (fs3 qs vs) (fs3 qs vs).length) = (allU 0 us).reverse := by rw [flat3, hall3]
      obtain ⟨T, hT⟩ : ∃ T, (flatR (bk (fs3 qs vs) (fs3 qs vs).length)).foldl stp ([], []) = T := ⟨_, rfl⟩
      have hTM : T.2.reverse = M := by rw [← hT, hfl, merge_front, hM]
      have hmg := merge_any (some ⟨w1.heap.size + 1, 0, none⟩) 3 3 (fs3 qs vs) wr hFI.out.fs (by simp [fs3]) (by rw [hfl, List.length_reverse, allU_len, hulH.out]; omega) (fun x hx => by rw [hfl, List.mem_reverse] at hx; have := allU_small _ _ _ hx; omega) T hT
      rw [hTM, ← List.length_reverse, hTM] at hmg
      have hmgH : Hid (Calls Tryd.prog 12 #[.slice (some ⟨w1.heap.size + 1, 0, none⟩) 3 3] wr fun e w' => ∃ v, e = .returned (.agg #[v]) ∧ w'.ownsRow wr.heap.size 44 4 v M.length (stsC M) ∧ Below wr.heap.size wr w') := hmg
      have hMH : Hid ((allU 0 us).foldl stepR [] = M) := hM
      have hMm : Hid (∀ x ∈ M, (x.s = secA 0 ∨ x.s = secA 1) ∧ (x.k = keyK 0 ∨ x.k = keyK 1)) := fun x hx => (stepR_mem (fun x => (x.s = secA 0 ∨ x.s = secA 1) ∧ (x.k = keyK 0 ∨ x.k = keyK 1)) _ [] (fun x hx => (allU_small _ _ _ hx).2.2) (fun x hx => by simp at hx) x (by rw [hM]; exact hx))
      have hzH : Hid (∀ p, p < 4 → wr.cell? ⟨w1.heap.size, p, none⟩ = some (.string (valZ p))) := hFI.out.z
      clear hM hall3 hfl hT hTM hmg hFI hqs
      go_wp2_with fail
      refine hmgH.out.mono ?_
      rintro e w2 ⟨v2, rfl, ho2, hb2⟩
      dsimp only
      obtain ⟨a2, n2, c2, rfl⟩ := own_shape ho2
      obtain rfl := own_len ho2
      obtain ⟨W2, hW2⟩ : ∃ W2, w2.alloc (.cells #[.slice a2 M.length c2] 25) = W2 := ⟨_, rfl⟩
      have mW2 : Mv (fun _ => False) w2 W2 := by rw [← hW2]; exact Mv.alloc _ _ _
      have q1 : W2.cell? ⟨w2.heap.size, 0, none⟩ = some (.slice a2 M.length c2) := by rw [← hW2]; exact cell_at rfl rfl
      have hf2 : w2.heap.size < W2.heap.size := cell_lt q1
      have mrW : Mv (fun _ => False) wr W2 := (Mv.below hb2).trans' mW2
      have hoW : Hid (W2.ownsRow wr.heap.size 44 4 (.slice a2 M.length c2) M.length (stsC M)) := own_mv ho2 mW2 (fun _ _ h => h)
      have hzW : Hid (∀ p, p < 4 → W2.cell? ⟨w1.heap.size, p, none⟩ = some (.string (valZ p))) := fun p hp => mrW.cell (fun h => h) (hzH.out p hp)
      have hcW : Hid (∀ (j u : Nat), us[j]? = some u → W2.cell? ⟨b, o + j, none⟩ = some (.int .u8 u)) := fun j u h => mrW.cell (fun h => h) ((hb.cell (p := ⟨b, o + j, none⟩) (by have := cell_lt (hcH.out j u h); have := hb1.size; simp at *; omega)).trans ((hb1.cell (p := ⟨b, o + j, none⟩) (cell_lt (hcH.out j u h))).trans (hcH.out j u h)))
      have hbW : Below w.heap.size w W2 := (hb1.trans (hb.mono hb1.size)).trans (mrW.toBelow (by have := hb1.size; omega) (fun _ _ h => h))
      obtain ⟨N, hN⟩ : ∃ N, M.length = N := ⟨_, rfl⟩
      rw [hN] at q1 hoW hML hW2 ⊢
      have hNH : Hid (M.length = N) := hN
      clear hN ho2 hmgH hzH hb2 mW2 mrW
      go_wp2_with (rw [hW2])
      clear hW2
      obtain ⟨j0, jinf, jz0, jz1, jz2⟩ := info_parts infoS
      have hr0 : rows M 0 = 0 := rfl
      go_loopw [8, 9] (fun v8 v9 wx => ∃ s : Nat, s ≤ 2 ∧ v9 = .int .i64 s ∧ v8 = .int .i64 (rows M s : Nat) ∧ rows M s ≤ s * 80 ∧ Mv (fun _ => False) W2 wx) (fun _ v9 _ => 2 - (intOf v9).toNat)
      case atStart => exact ⟨0, by omega, rfl, rfl, by rw [hr0]; omega, Mv.refl _ _⟩
      case round =>
        obtain ⟨s, hs, rfl, rfl, hrs, hmx⟩ := hrel
        by_cases hs2 : s < 2
        · have hsI : (s : Int) < 2 := by omega
          have hc0 : cols M s 0 = 0 := rfl
          go_wp2_with fail
          go_loopw [8, 10] (fun v8 v10 wx => ∃ t : Nat, t ≤ 2 ∧ v10 = .int .i64 t ∧ v8 = .int .i64 (rows M s + cols M s t : Nat) ∧ cols M s t ≤ t * 40 ∧ Mv (fun _ => False) W2 wx) (fun _ v10 _ => 2 - (intOf v10).toNat)
          case atStart => exact ⟨0, by omega, rfl, rfl, by rw [hc0]; omega, hmx⟩
          case round =>
            clear hmx
            obtain ⟨t, ht, rfl, rfl, hct, hmx⟩ := hrel
            by_cases ht2 : t < 2
            · have htI : (t : Int) < 2 := by omega
              obtain ⟨R, hR⟩ : ∃ R : Nat, rows M s + cols M s t = R := ⟨_, rfl⟩
              rw [hR]
              have hRH := hidI hR
              have hR2 : R ≤ 200 := by omega
              clear hR
              obtain ⟨G, hG⟩ : ∃ G, wr.heap.size = G := ⟨_, rfl⟩
              obtain ⟨Wa, hWa⟩ : ∃ Wa, wr.alloc (.cells #[.slice none 0 0] 38) = Wa := ⟨_, rfl⟩
              have mWa : Mv (fun _ => False) wr Wa := by rw [← hWa]; exact Mv.alloc _ _ _
              have mA := hmx.trans' mWa
              have kG : Cl G (.slice none 0 0) Wa := by rw [← hWa, ← hG]; exact ⟨cell_at rfl rfl, World.frozen?_alloc_new _ _ _ _⟩
              have hWs : Hid (Wa.heap.size = G + 1) := by show _ = _; rw [← hWa, ← hG]; simp
              go_wp2_with (rw [hWa])
              have hGW : W2.heap.size ≤ G := by rw [← hG]; exact hmx.size
              clear hWa hG
              go_loopw [11, 13] (fun v11 v13 wy => ∃ (i : Nat) (acc : List ByteArray), i ≤ k ∧ v13 = .int .i64 i ∧ Hid (acc = ((allU 0 us).take i).foldl (stepW (secA s) (keyK t)) []) ∧ acc.length ≤ i ∧ Hid (wy.ownsRow Wa.heap.size 9 1 v11 acc.length (acc.map Value.string)) ∧ Mv (fun _ => False) Wa wy) (fun _ v13 _ => k - (intOf v13).toNat)
              case atStart => exact ⟨0, [], by omega, rfl, rfl, by simp, World.ownsRow_nil _ _ _ _, Mv.refl _ _⟩
              case round =>
                obtain ⟨i, acc, hi, rfl, hacc, hal, hown, hmy⟩ := hrel
                have hmyH : Hid (Mv (fun _ => False) Wa wr) := hmy
                by_cases hlt : i < k
                · obtain ⟨u, hu⟩ : ∃ u, us[i]? = some u := ⟨_, List.getElem?_eq_getElem (by rw [hulH.out]; exact hlt)⟩
                  have cu := hmy.cell (fun h => h) (mA.cell (fun h => h) (hcW.out i u hu))
                  have hu255 := huH.out u (List.mem_of_getElem? hu)
                  obtain rfl := ha (by omega)
                  have hiI : (i : Int) < (k : Int) := by omega
                  obtain ⟨p, hp⟩ : ∃ p, u / 4 % 2 = p := ⟨_, rfl⟩
                  obtain ⟨q, hq⟩ : ∃ q, u / 8 % 2 = q := ⟨_, rfl⟩
                  obtain ⟨r, hr⟩ : ∃ r, u % 4 = r := ⟨_, rfl⟩
                  have hp2 : p < 2 := by omega
                  have hq2 : q < 2 := by omega
                  have hr4 : r < 4 := by omega
                  have hw4 : IntKind.u8.wrap ((u : Int) / 4) = (u : Int) / 4 := by rw [IntKind.wrap_u8]; omega
                  have hw8 : IntKind.u8.wrap ((u : Int) / 8) = (u : Int) / 8 := by rw [IntKind.wrap_u8]; omega
                  have hpI : ((u : Int) / 4).tmod 2 = (p : Int) := by rw [Int.tmod_eq_emod_of_nonneg (by omega)]; omega
                  have hqI : ((u : Int) / 8).tmod 2 = (q : Int) := by rw [Int.tmod_eq_emod_of_nonneg (by omega)]; omega
                  have hrI : (u : Int).tmod 4 = (r : Int) := by rw [Int.tmod_eq_emod_of_nonneg (by omega)]; omega
                  have hst : stU i u = ⟨secA p, keyK q, valZ r, i⟩ := by rw [← hp, ← hq, ← hr]; rfl
                  have hnx : ((allU 0 us).take (i + 1)).foldl (stepW (secA s) (keyK t)) [] = stepW (secA s) (keyK t) acc ⟨secA p, keyK q, valZ r, i⟩ := by rw [take_allU hu, List.foldl_append, ← hacc.out, hst]; rfl
                  have hcz := hmy.cell (fun h => h) (mA.cell (fun h => h) (hzW.out r hr4))
                  have hr1 := hown.out.alloc (.cells #[.string (valZ r)] 9)
                  have hr1H : Hid ((wr.alloc (.cells #[.string (valZ r)] 9)).ownsRow Wa.heap.size 9 1 _ acc.length (acc.map Value.string)) := hr1
                  clear hr1 hp hq hr hu hst hacc hmy
                  by_cases e1 : p = s
                  · subst e1
                    by_cases e2 : q = t
                    · subst e2
                      by_cases e3 : r = 0
                      · subst e3
                        rw [stepW_nil (x := ⟨secA p, keyK q, valZ 0, i⟩) rfl rfl rfl] at hnx
                        have hnxH := hidI hnx
                        clear hnx
                        go_wp2_with fail
                        exact ⟨⟨i + 1, [], by omega, by go_num, hidS hnxH.out, by simp, World.ownsRow_nil _ _ _ _, hmyH.out⟩, by simp [intOf]; omega⟩
                      · have e3I : ¬ (r : Int) = 0 := by omega
                        rw [stepW_add (x := ⟨secA p, keyK q, valZ r, i⟩) rfl rfl (valZ_ne hr4 e3)] at hnx
                        have hnxH := hidI hnx
                        clear hnx
                        go_wp2_with (at_builtin; refine wpList_append_own_at _ rfl _ _ 38 rfl Wa.heap.size 9 j0 (.string ⟨#[]⟩) 1 16 Tryd.underlying38 jinf jz0 jz1 jz2 rfl (by decide) _ _ _ rfl hr1H.out ⟨_, 0, none⟩ 1 1 [.string (valZ r)] rfl rfl (row_news1 _ _ _) (fun x hx => by simp at hx; subst hx; rfl) (by unfold maxLen; omega) (by omega) (by have := hmyH.out.size; simp; omega) ?_)
                        intro v' w4 hown' hgrow _ _
                        have mg : Mv (fun _ => False) Wa w4 := ((hmyH.out.trans' (Mv.alloc _ _ _)).mono (fun _ _ h => h)).grown hgrow (fun k e => .inr (hr1H.out.lt k e).1)
                        go_wp2_with fail
                        exact ⟨⟨i + 1, acc ++ [valZ r], by omega, by go_num, hidS hnxH.out, by simp; omega, hidI (by simpa using hown'), mg⟩, by simp [intOf]; omega⟩
                    · have e2I : ¬ (q : Int) = (t : Int) := by omega
                      rw [stepW_no (fun h => e2 (keyK_inj hq2 ht2 h.2))] at hnx
                      have hnxH := hidI hnx
                      clear hnx
                      go_wp2_with fail
                      exact ⟨⟨i + 1, acc, by omega, by go_num, hidS hnxH.out, by omega, hown, hmyH.out⟩, by simp [intOf]; omega⟩
                  · have e1I : ¬ (p : Int) = (s : Int) := by omega
                    rw [stepW_no (fun h => e1 (secA_inj hp2 hs2 h.1))] at hnx
                    have hnxH := hidI hnx
                    clear hnx
                    go_wp2_with fail
                    exact ⟨⟨i + 1, acc, by omega, by go_num, hidS hnxH.out, by omega, hown, hmyH.out⟩, by simp [intOf]; omega⟩
                · obtain rfl : i = k := by omega
                  have hiI : ¬ ((i : Int) < (i : Int)) := by omega
                  have hHs : acc = vals (secA s) (keyK t) M := by
                    rw [hacc.out, List.take_of_length_le (by rw [allU_len, hulH.out]; omega), ← hMH.out, vals_fold]; rfl
                  have mB := mA.trans' hmy
                  have kB := kG.mv hmy (fun h => h)
                  have r1 := mB.cell (fun h => h) q1
                  have hoB := own_mv hoW.out mB (fun _ _ h => h)
                  have hlenA : Hid (acc.length = cnt M s t) := by show _ = _; rw [hHs]; rfl
                  have hE1 : (⟨#[65, 66]⟩ : ByteArray).extract s (s + 1) = secA s := by
                    have : s = 0 ∨ s = 1 := by omega
                    rcases this with rfl | rfl <;> decide
                  have hE2 : (⟨#[107, 113]⟩ : ByteArray).extract t (t + 1) = keyK t := by
                    have : t = 0 ∨ t = 1 := by omega
                    rcases this with rfl | rfl <;> decide
                  have hs1I : (s : Int) + 1 ≤ 2 := by omega
                  have ht1I : (t : Int) + 1 ≤ 2 := by omega
                  have hs1n : ((s : Int) + 1).toNat = s + 1 := by omega
                  have ht1n : ((t : Int) + 1).toNat = t + 1 := by omega
                  have hs1m : (s : Int) ≤ (s : Int) + 1 := by omega
                  have ht1m : (t : Int) ≤ (t : Int) + 1 := by omega
                  have hgl : G < wr.heap.size := kB.lt
                  have hhv := hits_vals (secA s) (keyK t) M 0
                  rw [← hHs] at hhv
                  have hw2 : w2.heap.size < W2.heap.size := hf2
                  have nE2 : ¬ (w2.heap.size = G ∨ wr.heap.size ≤ w2.heap.size) := by omega
                  have hall' : ∀ y, Mv (fun g => g = G ∨ wr.heap.size ≤ g) wr y → y.cell? ⟨w2.heap.size, 0, none⟩ = some (.slice a2 N c2) ∧ Hid (Mv (fun g => g = G ∨ wr.heap.size ≤ g) wr y) := fun y m => ⟨m.cell nE2 r1, m⟩
                  have hAll : Hid (Calls Tryd.prog 16 #[.agg #[.slice a2 N c2], .string (secA s), .string (keyK t)] wr.drew fun e w' => ∃ b1 b2 b3 v', e = .returned (.func (.func 44) #[] #[.pointer (some ⟨b1, 0, none⟩), .pointer (some ⟨b2, 0, none⟩), .pointer (some ⟨b3, 0, none⟩)]) ∧ VBox (fun k => k < wr.heap.size) w' b1 b2 b3 v' (secA s) (keyK t) M ∧ Mv (fun _ => False) wr w') :=
                    (all_own _ (.slice a2 N c2) M (secA s) (keyK t) wr.drew (by rw [hNH.out]; exact own_mv hoB (Mv.drew (fun _ => False) _) (fun _ _ h => h)) (by rw [hNH.out]; omega)).mono (by
                      rintro e w' ⟨b1, b2, b3, v', rfl, hv, hb⟩
                      exact ⟨b1, b2, b3, v', rfl, hv, (Mv.drew _ _).trans' (Mv.below hb)⟩)
                  have hVal : Hid (∀ W0 b1 b2 b3 v', VBox (fun k => k < wr.heap.size) W0 b1 b2 b3 v' (secA s) (keyK t) M → Mv (fun _ => False) wr W0 → Calls Tryd.prog 44 #[.func (.func 23) #[] #[.pointer (some ⟨G, 0, none⟩)], .pointer (some ⟨b1, 0, none⟩), .pointer (some ⟨b2, 0, none⟩), .pointer (some ⟨b3, 0, none⟩)] W0 fun e W' => e = .returned (.tuple #[]) ∧ ∃ v', Cl G v' W' ∧ W'.ownsRow W0.heap.size 9 1 v' acc.length (acc.map Value.string) ∧ Mv (fun g => g = G ∨ wr.heap.size ≤ g) wr W') :=
                    fun W0 b1 b2 b3 v' hv m => (valuesD M b1 b2 b3 G v' (secA s) (keyK t) W0 (Nat.lt_of_lt_of_le hgl m.size) (hv.weak (fun k e => by rw [e]; exact hgl)) (kB.mv m (fun h => h)) (by rw [hNH.out]; omega) acc hhv).mono (by
                      rintro e W' ⟨rfl, v2, h1, h2, h3⟩
                      exact ⟨rfl, v2, h1, h2, (m.mono (fun _ _ h => h.elim)).trans' (h3.mono (fun k hk e => e.elim (fun e => .inl e) (fun e => absurd hk (by omega))))⟩)
                  obtain ⟨T2, hT2⟩ : ∃ T2, lastV (hits (secA s) (keyK t) 0 M) (⟨#[]⟩, false) = T2 := ⟨_, rfl⟩
                  have hT3 : T2 = match acc.getLast? with | some v => (v, true) | none => (⟨#[]⟩, false) := by rw [← hT2, lastV_eq, hhv]; cases acc.getLast? <;> rfl
                  have hLast : Hid (∀ y, Mv (fun g => g = G ∨ wr.heap.size ≤ g) wr y → Calls Tryd.prog 18 #[.agg #[.slice a2 N c2], .string (secA s), .string (keyK t)] y fun e w' => e = .returned (.tuple #[.string T2.1, .bool T2.2]) ∧ Below y.heap.size y w') :=
                    fun y m => last_any (.slice a2 N c2) M (secA s) (keyK t) y (own_slis _ (fun _ _ _ h => h) (by rw [hNH.out]; exact own_mv hoB m (fun g hg e => by have h1 := (hoB.lt g hg).2; have h2 := (hoW.out.lt g hg).2; omega))) (by rw [hNH.out]; omega) T2 hT2
                  have hT3H := hidI hT3
                  have hwantH : Hid (∀ y, Mv (fun g => g = G ∨ wr.heap.size ≤ g) wr y → y.ownsRow Wa.heap.size 9 1 u11 acc.length (acc.map Value.string)) := fun y m => own_mv hown.out m (fun g hg e => by have h1 := hown.out.lt g hg; have := hWs.out; omega)
                  have mBH := hidI mB
                  have hKB := hidI kB
                  clear hhv hHs hacc hT2 hT3 hown hmy mB kB hoB
                  go_upto_region 28 with fail
                  have hs01 : s = 0 ∨ s = 1 := by omega
                  have ht01 : t = 0 ∨ t = 1 := by omega
                  refine wp_region_held_drew (S := fun y => y.cell? ⟨w2.heap.size, 0, none⟩ = some (.slice a2 N c2) ∧ Hid (Mv (fun g => g = G ∨ wr.heap.size ≤ g) wr y)) (by kernel_rfl) (hall' _ (Mv.drew _ _)) (fun hHeld => ?_)
                  refine wpAnyH_take (i := 0) (oi := ⟨some 134, _, _, _, _, _⟩) (v := ?va0) rfl (by kernel_rfl) (by kernel_rfl) (by kernel_rfl) (fun _ _ _ h => h) (Or.inl ⟨by rfl, ?ha0⟩) (by assumption) ?_
                  case ha0 => (intro w hSw; (try dsimp only at hSw); go_simp; try with_reducible rfl)
                  simp only [Act.put, List.setIfInBounds_toArray, List.set_cons_zero, List.set_cons_succ]
                  refine wpAnyH_take (i := 1) (oi := ⟨some 135, _, _, _, _, _⟩) (v := ?va1) rfl (by kernel_rfl) (by kernel_rfl) (by kernel_rfl) (fun _ _ _ h => h) (Or.inl ⟨by rfl, ?ha1⟩) (by assumption) ?_
                  case ha1 => (intro w hSw; (try dsimp only at hSw); go_simp; try with_reducible rfl)
                  simp only [Act.put, List.setIfInBounds_toArray, List.set_cons_zero, List.set_cons_succ]
                  refine wpAnyH_take (i := 2) (oi := ⟨some 136, _, _, _, _, _⟩) (v := ?va2) rfl (by kernel_rfl) (by kernel_rfl) (by kernel_rfl) (fun _ _ _ h => h) (Or.inl ⟨by rfl, ?ha2⟩) (by assumption) ?_
                  case ha2 => (intro w hSw; (try dsimp only at hSw); go_simp; try with_reducible rfl)
                  simp only [Act.put, List.setIfInBounds_toArray, List.set_cons_zero, List.set_cons_succ]
                  refine wpAnyH_take (i := 3) (oi := ⟨some 137, _, _, _, _, _⟩) (v := ?va3) rfl (by kernel_rfl) (by kernel_rfl) (by kernel_rfl) (fun _ _ _ h => h) (Or.inl ⟨by rfl, ?ha3⟩) (by assumption) ?_
                  case ha3 => (intro w hSw; (try dsimp only at hSw); go_simp; try with_reducible rfl)
                  simp only [Act.put, List.setIfInBounds_toArray, List.set_cons_zero, List.set_cons_succ]
                  refine wpAnyH_take (i := 4) (oi := ⟨some 138, _, _, _, _, _⟩) (v := .string (secA s)) rfl (by kernel_rfl) (by kernel_rfl) (by kernel_rfl) (fun _ _ _ h => h) (Or.inl ⟨by rfl, ?ha4⟩) (by assumption) ?_
                  case ha4 => (intro w hSw; (try dsimp only at hSw); rcases hs01 with rfl | rfl <;> go_simp <;> first | rfl | decide; try with_reducible rfl)
                  simp only [Act.put, List.setIfInBounds_toArray, List.set_cons_zero, List.set_cons_succ]
                  refine wpAnyH_take (i := 5) (oi := ⟨some 139, _, _, _, _, _⟩) (v := ?va5) rfl (by kernel_rfl) (by kernel_rfl) (by kernel_rfl) (fun _ _ _ h => h) (Or.inl ⟨by rfl, ?ha5⟩) (by assumption) ?_
                  case ha5 => (intro w hSw; (try dsimp only at hSw); go_simp; try with_reducible rfl)
                  simp only [Act.put, List.setIfInBounds_toArray, List.set_cons_zero, List.set_cons_succ]
                  refine wpAnyH_take (i := 6) (oi := ⟨some 140, _, _, _, _, _⟩) (v := ?va6) rfl (by kernel_rfl) (by kernel_rfl) (by kernel_rfl) (fun _ _ _ h => h) (Or.inl ⟨by rfl, ?ha6⟩) (by assumption) ?_
                  case ha6 => (intro w hSw; (try dsimp only at hSw); go_simp; try with_reducible rfl)
                  simp only [Act.put, List.setIfInBounds_toArray, List.set_cons_zero, List.set_cons_succ]
                  refine wpAnyH_take (i := 7) (oi := ⟨some 141, _, _, _, _, _⟩) (v := ?va7) rfl (by kernel_rfl) (by kernel_rfl) (by kernel_rfl) (fun _ _ _ h => h) (Or.inl ⟨by rfl, ?ha7⟩) (by assumption) ?_
                  case ha7 => (intro w hSw; (try dsimp only at hSw); go_simp; try with_reducible rfl)
                  simp only [Act.put, List.setIfInBounds_toArray, List.set_cons_zero, List.set_cons_succ]
                  refine wpAnyH_take (i := 8) (oi := ⟨some 142, _, _, _, _, _⟩) (v := .string (keyK t)) rfl (by kernel_rfl) (by kernel_rfl) (by kernel_rfl) (fun _ _ _ h => h) (Or.inl ⟨by rfl, ?ha8⟩) (by assumption) ?_
                  case ha8 => (intro w hSw; (try dsimp only at hSw); rcases ht01 with rfl | rfl <;> go_simp <;> first | rfl | decide; try with_reducible rfl)
                  simp only [Act.put, List.setIfInBounds_toArray, List.set_cons_zero, List.set_cons_succ]
                  refine wpAnyH_take (i := 10) (oi := ⟨some 144, _, _, _, _, _⟩) (v := ?va10) rfl (by kernel_rfl) (by kernel_rfl) (by kernel_rfl) (fun _ _ _ h => h) (Or.inl ⟨by rfl, ?ha10⟩) (by assumption) ?_
                  case ha10 => (intro w hSw; (try dsimp only at hSw); go_simp; try with_reducible rfl)
                  simp only [Act.put, List.setIfInBounds_toArray, List.set_cons_zero, List.set_cons_succ]
                  refine wpAnyH_ready (rs := [9]) (by kernel_rfl) (by simp) ?_
                  refine AllReadyH.cons (o := ⟨some 143, _, _, _, _, _⟩) rfl (fun K hK => ?_) AllReadyH.nil
                  go_simp
                  refine hAll.out.mono ?_
                  rintro e w3 ⟨b1, b2, b3, v3, rfl, hvb, hm3⟩
                  go_wp2_with fail
                  refine hK.out _ _ (hall' _ (hm3.mono (fun _ _ h => h.elim))) (fun _ => ?_)
                  clear hK K
                  refine wpAnyH_ready (rs := [11]) (by kernel_rfl) (by simp) ?_
                  refine AllReadyH.cons (o := ⟨some 145, _, _, _, _, _⟩) rfl (fun K hK => ?_) AllReadyH.nil
                  go_simp
                  refine (hVal.out _ _ _ _ _ hvb hm3).mono ?_
                  rintro e w4 ⟨rfl, v4, hc4, ho4, hm4⟩
                  go_wp2_with fail
                  refine hK.out _ _ (hall' _ hm4) (fun _ => ?_)
                  clear hK K
                  refine wpAnyH_done (by kernel_rfl) ?_ _
                  have y1 := (hall' _ hm4).1
                  go_upto_region 29 with fail
                  have hall2 : ∀ y, Mv (fun _ => False) w4 y → y.cell? ⟨w2.heap.size, 0, none⟩ = some (.slice a2 N c2) ∧ Hid (Mv (fun _ => False) w4 y) := fun y m => ⟨m.cell (fun h => h) y1, m⟩
                  have hL4 : Hid (Calls Tryd.prog 18 #[.agg #[.slice a2 N c2], .string (secA s), .string (keyK t)] w4.drew fun e w' => e = .returned (.tuple #[.string T2.1, .bool T2.2]) ∧ Mv (fun _ => False) w4 w') := (hLast.out w4.drew (hm4.trans' (Mv.drew _ _))).mono (by rintro e w' ⟨rfl, hb⟩; exact ⟨rfl, (Mv.drew _ _).trans' (Mv.below hb)⟩)
                  refine wp_region_held_drew (S := fun y => y.cell? ⟨w2.heap.size, 0, none⟩ = some (.slice a2 N c2) ∧ Hid (Mv (fun _ => False) w4 y)) (by kernel_rfl) (hall2 _ (Mv.drew _ _)) (fun hHeld => ?_)
                  refine wpAnyH_take (i := 0) (oi := ⟨some 147, _, _, _, _, _⟩) (v := ?vb0) rfl (by kernel_rfl) (by kernel_rfl) (by kernel_rfl) (fun _ _ _ h => h) (Or.inl ⟨by rfl, ?hb0⟩) (by assumption) ?_
                  case hb0 => (intro w hSw; (try dsimp only at hSw); go_simp; try with_reducible rfl)
                  simp only [Act.put, List.setIfInBounds_toArray, List.set_cons_zero, List.set_cons_succ]
                  refine wpAnyH_take (i := 1) (oi := ⟨some 148, _, _, _, _, _⟩) (v := ?vb1) rfl (by kernel_rfl) (by kernel_rfl) (by kernel_rfl) (fun _ _ _ h => h) (Or.inl ⟨by rfl, ?hb1⟩) (by assumption) ?_
                  case hb1 => (intro w hSw; (try dsimp only at hSw); go_simp; try with_reducible rfl)
                  simp only [Act.put, List.setIfInBounds_toArray, List.set_cons_zero, List.set_cons_succ]
                  refine wpAnyH_take (i := 2) (oi := ⟨some 149, _, _, _, _, _⟩) (v := ?vb2) rfl (by kernel_rfl) (by kernel_rfl) (by kernel_rfl) (fun _ _ _ h => h) (Or.inl ⟨by rfl, ?hb2⟩) (by assumption) ?_
                  case hb2 => (intro w hSw; (try dsimp only at hSw); go_simp; try with_reducible rfl)
                  simp only [Act.put, List.setIfInBounds_toArray, List.set_cons_zero, List.set_cons_succ]
                  refine wpAnyH_take (i := 3) (oi := ⟨some 150, _, _, _, _, _⟩) (v := ?vb3) rfl (by kernel_rfl) (by kernel_rfl) (by kernel_rfl) (fun _ _ _ h => h) (Or.inl ⟨by rfl, ?hb3⟩) (by assumption) ?_
                  case hb3 => (intro w hSw; (try dsimp only at hSw); go_simp; try with_reducible rfl)
                  simp only [Act.put, List.setIfInBounds_toArray, List.set_cons_zero, List.set_cons_succ]
                  refine wpAnyH_take (i := 4) (oi := ⟨some 151, _, _, _, _, _⟩) (v := .string (secA s)) rfl (by kernel_rfl) (by kernel_rfl) (by kernel_rfl) (fun _ _ _ h => h) (Or.inl ⟨by rfl, ?hb4⟩) (by assumption) ?_
                  case hb4 => (intro w hSw; (try dsimp only at hSw); rcases hs01 with rfl | rfl <;> go_simp <;> first | rfl | decide; try with_reducible rfl)
                  simp only [Act.put, List.setIfInBounds_toArray, List.set_cons_zero, List.set_cons_succ]
                  refine wpAnyH_take (i := 5) (oi := ⟨some 152, _, _, _, _, _⟩) (v := ?vb5) rfl (by kernel_rfl) (by kernel_rfl) (by kernel_rfl) (fun _ _ _ h => h) (Or.inl ⟨by rfl, ?hb5⟩) (by assumption) ?_
                  case hb5 => (intro w hSw; (try dsimp only at hSw); go_simp; try with_reducible rfl)
                  simp only [Act.put, List.setIfInBounds_toArray, List.set_cons_zero, List.set_cons_succ]
                  refine wpAnyH_take (i := 6) (oi := ⟨some 153, _, _, _, _, _⟩) (v := ?vb6) rfl (by kernel_rfl) (by kernel_rfl) (by kernel_rfl) (fun _ _ _ h => h) (Or.inl ⟨by rfl, ?hb6⟩) (by assumption) ?_
                  case hb6 => (intro w hSw; (try dsimp only at hSw); go_simp; try with_reducible rfl)
                  simp only [Act.put, List.setIfInBounds_toArray, List.set_cons_zero, List.set_cons_succ]
                  refine wpAnyH_take (i := 7) (oi := ⟨some 154, _, _, _, _, _⟩) (v := ?vb7) rfl (by kernel_rfl) (by kernel_rfl) (by kernel_rfl) (fun _ _ _ h => h) (Or.inl ⟨by rfl, ?hb7⟩) (by assumption) ?_
                  case hb7 => (intro w hSw; (try dsimp only at hSw); go_simp; try with_reducible rfl)
                  simp only [Act.put, List.setIfInBounds_toArray, List.set_cons_zero, List.set_cons_succ]
                  refine wpAnyH_take (i := 8) (oi := ⟨some 155, _, _, _, _, _⟩) (v := .string (keyK t)) rfl (by kernel_rfl) (by kernel_rfl) (by kernel_rfl) (fun _ _ _ h => h) (Or.inl ⟨by rfl, ?hb8⟩) (by assumption) ?_
                  case hb8 => (intro w hSw; (try dsimp only at hSw); rcases ht01 with rfl | rfl <;> go_simp <;> first | rfl | decide; try with_reducible rfl)
                  simp only [Act.put, List.setIfInBounds_toArray, List.set_cons_zero, List.set_cons_succ]
                  refine wpAnyH_ready (rs := [9]) (by kernel_rfl) (by simp) ?_
                  refine AllReadyH.cons (o := ⟨some 156, _, _, _, _, _⟩) rfl (fun K hK => ?_) AllReadyH.nil
                  go_simp
                  refine hL4.out.mono ?_
                  rintro e w5 ⟨rfl, hm5⟩
                  go_wp2_with fail
                  have hh5 := hall2 _ hm5
                  refine hK.out _ _ hh5 (fun _ => ?_)
                  clear hK K
                  refine wpAnyH_take (i := 10) (oi := ⟨some 146, _, _, _, _, _⟩) (v := ?vb10) rfl (by kernel_rfl) (by kernel_rfl) (by kernel_rfl) (fun _ _ _ h => h) (Or.inl ⟨by rfl, ?hb10⟩) (by assumption) ?_
                  case hb10 => (intro w hSw; (try dsimp only at hSw); go_simp; try with_reducible rfl)
                  simp only [Act.put, List.setIfInBounds_toArray, List.set_cons_zero, List.set_cons_succ]
                  refine wpAnyH_take (i := 11) (oi := ⟨some 157, _, _, _, _, _⟩) (v := ?vb11) rfl (by kernel_rfl) (by kernel_rfl) (by kernel_rfl) (fun _ _ _ h => h) (Or.inl ⟨by rfl, ?hb11⟩) (by assumption) ?_
                  case hb11 => (intro w hSw; (try dsimp only at hSw); go_simp; try with_reducible rfl)
                  simp only [Act.put, List.setIfInBounds_toArray, List.set_cons_zero, List.set_cons_succ]
                  refine wpAnyH_take (i := 12) (oi := ⟨some 158, _, _, _, _, _⟩) (v := ?vb12) rfl (by kernel_rfl) (by kernel_rfl) (by kernel_rfl) (fun _ _ _ h => h) (Or.inl ⟨by rfl, ?hb12⟩) (by assumption) ?_
                  case hb12 => (intro w hSw; (try dsimp only at hSw); go_simp; try with_reducible rfl)
                  simp only [Act.put, List.setIfInBounds_toArray, List.set_cons_zero, List.set_cons_succ]
                  refine wpAnyH_take (i := 13) (oi := ⟨some 14, _, _, _, _, _⟩) (v := ?vb13) rfl (by kernel_rfl) (by kernel_rfl) (by kernel_rfl) (fun _ _ _ h => h) (Or.inl ⟨by rfl, ?hb13⟩) (by assumption) ?_
                  case hb13 => (intro w hSw; (try dsimp only at hSw); go_simp; try with_reducible rfl)
                  simp only [Act.put, List.setIfInBounds_toArray, List.set_cons_zero, List.set_cons_succ]
                  refine wpAnyH_take (i := 14) (oi := ⟨some 15, _, _, _, _, _⟩) (v := ?vb14) rfl (by kernel_rfl) (by kernel_rfl) (by kernel_rfl) (fun _ _ _ h => h) (Or.inl ⟨by rfl, ?hb14⟩) (by assumption) ?_
                  case hb14 => (intro w hSw; (try dsimp only at hSw); go_simp; try with_reducible rfl)
                  simp only [Act.put, List.setIfInBounds_toArray, List.set_cons_zero, List.set_cons_succ]
                  refine wpAnyH_done (by kernel_rfl) ?_ _
                  have hc5 := hc4.mv hm5 (fun h => h)
                  have ho5 := own_mv ho4 hm5 (fun _ _ h => h)
                  have hw5 := own_mv (hwantH.out w4 hm4) hm5 (fun _ _ h => h)
                  obtain ⟨ag, gg, cg, rfl, hg1, hg2⟩ := own_strs ho5
                  obtain ⟨aw, gw, cw, rfl, hw1, hw3⟩ := own_strs hw5
                  have htx := texts_same ag aw gg 0 cg gw 0 cw acc w5 (fun h => (hg1 h).1) (fun h => (hw1 h).1) (fun j x hj => by rw [Nat.zero_add]; exact hg2 j x hj) (fun j x hj => by rw [Nat.zero_add]; exact hw3 j x hj) (by omega)
                  have mW5 : Hid (Mv (fun _ => False) W2 w5) := ((Mv.below ((mBH.out.toBelow (Nat.le_refl _) (fun _ _ h => h)).trans (hm4.toBelow mBH.out.size (fun k hk e => by have := mBH.out.size; omega))))).trans' hm5
                  obtain ⟨n, hn⟩ : ∃ n, acc.length = n := ⟨_, rfl⟩
                  rw [hn] at htx hc5 hal ⊢
                  have hnH := hidI hn
                  have htxH : Hid (Calls Tryd.prog 21 #[.slice ag n cg, .slice aw n cw] w5 fun e w' => e = .returned (.bool true) ∧ Below w5.heap.size w5 w') := htx
                  have y2 := hc5.c
                  have hnext : Hid (rows M s + cols M s (t + 1) = R + n ∧ cols M s (t + 1) ≤ (t + 1) * 40) := by
                    have h1 := hlenA.out
                    have h2 := hRH.out
                    have h3 := cnt_le M s t
                    have h4 := hNH.out
                    have h5 : cols M s (t + 1) = cols M s t + cnt M s t := rfl
                    exact ⟨by omega, by omega⟩
                  clear htx hn hlenA hAll hVal hLast hL4 hall' hall2 hh5 hHeld hvb hm3 hm4 hc4 ho4 ho5 hg1 hg2
                  by_cases hn0 : n = 0
                  · subst hn0
                    have hac : acc = [] := List.length_eq_zero_iff.1 hnH.out
                    have hT4 : T2 = (⟨#[]⟩, false) := by rw [hT3H.out, hac]; rfl
                    subst hT4
                    clear hac hw1 hw3
                    go_wp2_with fail
                    refine htxH.out.mono ?_
                    rintro e w6 ⟨rfl, hb6⟩
                    dsimp only
                    have m6 : Hid (Mv (fun _ => False) W2 w6) := mW5.out.trans' (Mv.below hb6)
                    clear hb6
                    go_wp2_with fail
                    exact ⟨⟨t + 1, by omega, by go_num, by rw [hnext.out.1, Nat.add_zero], hnext.out.2, m6.out⟩, by simp [intOf]; omega⟩
                  · obtain ⟨m, rfl⟩ : ∃ m, n = m + 1 := ⟨n - 1, by omega⟩
                    obtain ⟨rfl, -⟩ := hw1 (by rw [hnH.out]; omega)
                    obtain ⟨z, hz⟩ : ∃ z, acc[m]? = some z := ⟨_, List.getElem?_eq_getElem (by rw [hnH.out]; omega)⟩
                    have hT4 : T2 = (z, true) := by rw [hT3H.out, List.getLast?_eq_getElem?, hnH.out, Nat.add_sub_cancel, hz]
                    subst hT4
                    have z5 := hw3 m z hz
                    clear hw1 hw3 hz
                    go_wp2_with fail
                    refine htxH.out.mono ?_
                    rintro e w6 ⟨rfl, hb6⟩
                    dsimp only
                    have m6 : Hid (Mv (fun _ => False) W2 w6) := mW5.out.trans' (Mv.below hb6)
                    have z6 := (hb6.cell (p := ⟨gw, m, none⟩) (cell_lt z5)).trans z5
                    clear hb6
                    go_wp2_with fail
                    exact ⟨⟨t + 1, by omega, by go_num, by rw [hnext.out.1]; first | go_num | (congr 1; omega), hnext.out.2, m6.out⟩, by simp [intOf]; omega⟩
            · obtain rfl : t = 2 := by omega
              have hrn : rows M (s + 1) = rows M s + cols M s 2 := rfl
              have hrnH := hidI hrn
              clear hrn
              have hmxH := hidI hmx
              clear hmx
              go_wp2_with fail
              exact ⟨⟨s + 1, by omega, by go_num, by rw [hrnH.out], by rw [hrnH.out]; omega, hmxH.out⟩, by simp [intOf]; omega⟩
        · obtain rfl : s = 2 := by omega
          have hrN : rows M 2 = N := by rw [rows_all M hMm.out, hNH.out]
          rw [hrN]
          have x1 := hmx.cell (fun h => h) q1
          have hbE : Below w.heap.size w wr := hbW.trans (hmx.toBelow hbW.size (fun _ _ h => h))
          clear hrN hrs
          go_wp2_with fail
          go_ret
          exact ⟨rfl, hbE⟩
end Go.Proofs.YtiinhfbfciccnaaDoor
