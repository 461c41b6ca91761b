/- The law CalendarWords holds. -/
import Derived.Test.YtfafcpjmfopinaaGreatDoorZK
import Derived.Test.YtfafcpjmfopinaaGreatDoorZI
import Derived.Test.YtfafcpjmfopinaaGreatDoorZG
namespace Go.Proofs.YtfafcpjmfopinaaGreatDoor
open Go.RowKit Go.Shelf
abbrev stP : List Part := [(true, 0, 0, 0)]
abbrev nP (n : Nat) : List Part := [(false, (n : Int), (n : Int), 0)]
theorem l_star (d : Int) (v : Value) (w : World) (h : Pin (fun _ => False) w v stP) : Calls Tryz.prog 12 #[v, .int .i64 d] w fun e w' => e = .returned (.string ⟨#[42]⟩) ∧ Below w.heap.size w w' := list_one _ d _ v w h (by decide) (part_star d)
theorem l_zero (v : Value) (w : World) (h : Pin (fun _ => False) w v (nP 0)) : Calls Tryz.prog 12 #[v, .int .i64 2] w fun e w' => e = .returned (.string ⟨#[48, 48]⟩) ∧ Below w.heap.size w w' := list_one _ 2 _ v w h (by decide) (part_one 0 (by decide))
theorem l_one (v : Value) (w : World) (h : Pin (fun _ => False) w v (nP 1)) : Calls Tryz.prog 12 #[v, .int .i64 2] w fun e w' => e = .returned (.string ⟨#[48, 49]⟩) ∧ Below w.heap.size w w' := list_one _ 2 _ v w h (by decide) (part_one 1 (by decide))
abbrev PriP (x : Cal.C7) (T : ByteArray) : Prop := ∀ (S : Nat → Sl) (w : World), CalPin (fun _ => False) w S x → Gl (fun _ => False) w → Calls Tryz.prog 6 #[aggC S] w fun e w' => e = .returned (.tuple #[.string T, .int .i64 0]) ∧ Below w.heap.size w w'
def xw0 : Cal.C7 := ⟨[], stP, stP, stP, stP, stP, nP 0⟩
def xw1 : Cal.C7 := ⟨[], stP, stP, stP, stP, nP 0, nP 0⟩
def xw2 : Cal.C7 := ⟨[], stP, stP, stP, nP 0, nP 0, nP 0⟩
def xw3 : Cal.C7 := ⟨[(false, 0, 0, 0)], stP, stP, stP, nP 0, nP 0, nP 0⟩
def xw4 : Cal.C7 := ⟨[], stP, stP, nP 1, nP 0, nP 0, nP 0⟩
def xw5 : Cal.C7 := ⟨[], stP, nP 1, nP 1, nP 0, nP 0, nP 0⟩
theorem pr0 : PriP xw0 ⟨#[42, 45, 42, 45, 42, 32, 42, 58, 42, 58, 48, 48]⟩ := fun S w hp hg => print_of S xw0 w hp hg (by decide +kernel) _ _ _ _ _ _ _ (by decide) (by decide) (by decide) (by decide) (by decide) (by decide) (l_star 4) (l_star 2) (l_star 2) (l_star 2) (l_star 2) l_zero (.inl ⟨rfl, by decide +kernel⟩)
theorem pr1 : PriP xw1 ⟨#[42, 45, 42, 45, 42, 32, 42, 58, 48, 48, 58, 48, 48]⟩ := fun S w hp hg => print_of S xw1 w hp hg (by decide +kernel) _ _ _ _ _ _ _ (by decide) (by decide) (by decide) (by decide) (by decide) (by decide) (l_star 4) (l_star 2) (l_star 2) (l_star 2) l_zero l_zero (.inl ⟨rfl, by decide +kernel⟩)
theorem pr2 : PriP xw2 ⟨#[42, 45, 42, 45, 42, 32, 48, 48, 58, 48, 48, 58, 48, 48]⟩ := fun S w hp hg => print_of S xw2 w hp hg (by decide +kernel) _ _ _ _ _ _ _ (by decide) (by decide) (by decide) (by decide) (by decide) (by decide) (l_star 4) (l_star 2) (l_star 2) l_zero l_zero l_zero (.inl ⟨rfl, by decide +kernel⟩)
theorem pr3 : PriP xw3 ⟨#[77, 111, 110, 32, 42, 45, 42, 45, 42, 32, 48, 48, 58, 48, 48, 58, 48, 48]⟩ := fun S w hp hg => print_of S xw3 w hp hg (by decide +kernel) _ _ _ _ _ _ _ (by decide) (by decide) (by decide) (by decide) (by decide) (by decide) (l_star 4) (l_star 2) (l_star 2) l_zero l_zero l_zero (.inr ⟨_, by decide, by decide, week_mon, by decide +kernel⟩)
theorem pr4 : PriP xw4 ⟨#[42, 45, 42, 45, 48, 49, 32, 48, 48, 58, 48, 48, 58, 48, 48]⟩ := fun S w hp hg => print_of S xw4 w hp hg (by decide +kernel) _ _ _ _ _ _ _ (by decide) (by decide) (by decide) (by decide) (by decide) (by decide) (l_star 4) (l_star 2) l_one l_zero l_zero l_zero (.inl ⟨rfl, by decide +kernel⟩)
theorem pr5 : PriP xw5 ⟨#[42, 45, 48, 49, 45, 48, 49, 32, 48, 48, 58, 48, 48, 58, 48, 48]⟩ := fun S w hp hg => print_of S xw5 w hp hg (by decide +kernel) _ _ _ _ _ _ _ (by decide) (by decide) (by decide) (by decide) (by decide) (by decide) (l_star 4) l_one l_one l_zero l_zero l_zero (.inl ⟨rfl, by decide +kernel⟩)
abbrev ParW (m : ByteArray) (x : Cal.C7) : Prop := ∀ w, GlP w → Calls Tryz.prog 5 #[.string m] w (ParP w x)
theorem pa0 : ParW ⟨#[109, 105, 110, 117, 116, 101, 108, 121]⟩ xw0 := fun w hg => parse_any _ w hg xw0 (by kernel_rfl) (by decide +kernel) (by decide +kernel)
theorem pa1 : ParW ⟨#[104, 111, 117, 114, 108, 121]⟩ xw1 := fun w hg => parse_any _ w hg xw1 (by kernel_rfl) (by decide +kernel) (by decide +kernel)
theorem pa2 : ParW ⟨#[100, 97, 105, 108, 121]⟩ xw2 := fun w hg => parse_any _ w hg xw2 (by kernel_rfl) (by decide +kernel) (by decide +kernel)
theorem pa3 : ParW ⟨#[119, 101, 101, 107, 108, 121]⟩ xw3 := fun w hg => parse_any _ w hg xw3 (by kernel_rfl) (by decide +kernel) (by decide +kernel)
theorem pa4 : ParW ⟨#[109, 111, 110, 116, 104, 108, 121]⟩ xw4 := fun w hg => parse_any _ w hg xw4 (by kernel_rfl) (by decide +kernel) (by decide +kernel)
theorem pa5 : ParW ⟨#[121, 101, 97, 114, 108, 121]⟩ xw5 := fun w hg => parse_any _ w hg xw5 (by kernel_rfl) (by decide +kernel) (by decide +kernel)
abbrev wordsL : List Value := [.string ⟨#[109, 105, 110, 117, 116, 101, 108, 121]⟩, .string ⟨#[104, 111, 117, 114, 108, 121]⟩, .string ⟨#[100, 97, 105, 108, 121]⟩, .string ⟨#[119, 101, 101, 107, 108, 121]⟩, .string ⟨#[109, 111, 110, 116, 104, 108, 121]⟩, .string ⟨#[121, 101, 97, 114, 108, 121]⟩]
abbrev textsL : List Value := [.string ⟨#[42, 45, 42, 45, 42, 32, 42, 58, 42, 58, 48, 48]⟩, .string ⟨#[42, 45, 42, 45, 42, 32, 42, 58, 48, 48, 58, 48, 48]⟩, .string ⟨#[42, 45, 42, 45, 42, 32, 48, 48, 58, 48, 48, 58, 48, 48]⟩, .string ⟨#[77, 111, 110, 32, 42, 45, 42, 45, 42, 32, 48, 48, 58, 48, 48, 58, 48, 48]⟩, .string ⟨#[42, 45, 42, 45, 48, 49, 32, 48, 48, 58, 48, 48, 58, 48, 48]⟩, .string ⟨#[42, 45, 48, 49, 45, 48, 49, 32, 48, 48, 58, 48, 48, 58, 48, 48]⟩]
set_option maxRecDepth 100000 in
set_option maxHeartbeats 4000000 in
theorem words_at (n0 k : Nat) (m T : ByteArray) (x : Cal.C7) (w : World) (hg : GlP w) (h0 : n0 < 256) (hk : n0 % 6 = k) (hm : wordsL[k]? = some (.string m)) (ht : textsL[k]? = some (.string T)) (hP : Hid (ParW m x)) (hR : Hid (PriP x T)) :
    Calls Tryz.prog 3 #[.int .u8 n0] w fun e w' => e = .returned (.bool true) ∧ Below w.heap.size w w' := by
  have hkn := known_any w hg
  have hki : (n0 : Int) % 6 = (k : Int) := by omega
  have hkj : (n0 : Int).tmod 6 = (k : Int) := by rw [Int.tmod_eq_emod_of_nonneg (by omega)]; exact hki
  have hk6 : k < 6 := by omega
  have hgH := hidP hg
  have hmH := hidP hm
  have htH := hidP ht
  clear hm ht hg hk
  go_enter Tryz.func3, Tryz.ntmps3
  go_wp2_with fail
  refine hkn.mono ?_
  rintro e w1 ⟨rfl, hb1⟩
  clear hkn
  have hg1 := hidP (hgH.out.below hb1)
  have hz1 := hidP hb1
  obtain ⟨U1, hU1⟩ : ∃ U1, w1.alloc (.cells wordsL.toArray 23) = U1 := ⟨_, rfl⟩
  have mU1 : Below w1.heap.size w1 U1 := by rw [← hU1]; exact (Below.refl _ _).alloc (Nat.le_refl _) _
  have sU1 : U1.heap.size = w1.heap.size + 1 := by rw [← hU1]; simp
  have cU1 : U1.cell? ⟨w1.heap.size, k, none⟩ = some (.string m) := by rw [← hU1]; exact cell_at rfl (by simpa using hmH.out)
  obtain ⟨U2, hU2⟩ : ∃ U2, U1.alloc (.cells textsL.toArray 23) = U2 := ⟨_, rfl⟩
  have mU2 : Below U1.heap.size U1 U2 := by rw [← hU2]; exact (Below.refl _ _).alloc (Nat.le_refl _) _
  have cU2 : U2.cell? ⟨w1.heap.size + 1, k, none⟩ = some (.string T) := by rw [← hU2, ← sU1]; exact cell_at rfl (by simpa using htH.out)
  have cV1 : U2.cell? ⟨w1.heap.size, k, none⟩ = some (.string m) := (mU2.cell (cell_lt cU1)).trans cU1
  have hzU := hidP ((hz1.out.trans (mU1.mono hz1.out.size)).trans (mU2.mono (Nat.le_trans hz1.out.size mU1.size)))
  have hgU := hidP (hgH.out.below hzU.out)
  have hPa := hidP (hP.out U2 hgU.out)
  clear cU1 mU1 mU2 hb1 hmH htH hg1 hz1
  go_upto_region 6 with (first | rw [hU1] | rw [hU2])
  go_wp2_with fail
  refine hPa.out.mono ?_
  rintro e w2 ⟨S, rfl, hb2, hp⟩
  have hz2 := hidP (hzU.out.trans (hb2.mono hzU.out.size))
  have cT2 := (hb2.cell (cell_lt cU2)).trans cU2
  obtain ⟨U3, hU3⟩ : ∃ U3, w2.alloc (.cells #[slv (S 0), slv (S 1), slv (S 2), slv (S 3), slv (S 4), slv (S 5), slv (S 6)] 26) = U3 := ⟨_, rfl⟩
  have mU3 : Below w2.heap.size w2 U3 := by rw [← hU3]; exact (Below.refl _ _).alloc (Nat.le_refl _) _
  have q0 : U3.cell? ⟨w2.heap.size, 0, none⟩ = some (slv (S 0)) := by rw [← hU3]; exact cell_at rfl rfl
  have q1 : U3.cell? ⟨w2.heap.size, 1, none⟩ = some (slv (S 1)) := by rw [← hU3]; exact cell_at rfl rfl
  have q2 : U3.cell? ⟨w2.heap.size, 2, none⟩ = some (slv (S 2)) := by rw [← hU3]; exact cell_at rfl rfl
  have q3 : U3.cell? ⟨w2.heap.size, 3, none⟩ = some (slv (S 3)) := by rw [← hU3]; exact cell_at rfl rfl
  have q4 : U3.cell? ⟨w2.heap.size, 4, none⟩ = some (slv (S 4)) := by rw [← hU3]; exact cell_at rfl rfl
  have q5 : U3.cell? ⟨w2.heap.size, 5, none⟩ = some (slv (S 5)) := by rw [← hU3]; exact cell_at rfl rfl
  have q6 : U3.cell? ⟨w2.heap.size, 6, none⟩ = some (slv (S 6)) := by rw [← hU3]; exact cell_at rfl rfl
  have cT3 := (mU3.cell (cell_lt cT2)).trans cT2
  have hz3 := hidP (hz2.out.trans (mU3.mono hz2.out.size))
  have hPr := hidP (hR.out S U3 (hp.mv (Mv.below mU3) (Gr.refl _ _)) (hgH.out.below hz3.out).gl)
  clear hp hb2 mU3 cU2 cV1 hPa cT2
  unfold aggC at hPr
  go_upto_region 7 with (rw [hU3])
  go_wp2_with fail
  refine hPr.out.mono ?_
  rintro e w4 ⟨rfl, hb4⟩
  have cT4 := (hb4.cell (cell_lt cT3)).trans cT3
  have hz4 := hidP (hz3.out.trans (hb4.mono hz3.out.size))
  go_wp2_with fail
  go_ret
  exact ⟨rfl, hz4.out⟩
theorem words_walk (n0 : Nat) (w : World) (hg : GlP w) (h0 : n0 ≤ 255) : Calls Tryz.prog 3 #[.int .u8 n0] w fun e w' => e = .returned (.bool true) ∧ Below w.heap.size w w' := by
  have h6 : n0 % 6 = 0 ∨ n0 % 6 = 1 ∨ n0 % 6 = 2 ∨ n0 % 6 = 3 ∨ n0 % 6 = 4 ∨ n0 % 6 = 5 := by omega
  rcases h6 with hk | hk | hk | hk | hk | hk
  · exact words_at n0 0 _ _ xw0 w hg (by omega) hk rfl rfl pa0 pr0
  · exact words_at n0 1 _ _ xw1 w hg (by omega) hk rfl rfl pa1 pr1
  · exact words_at n0 2 _ _ xw2 w hg (by omega) hk rfl rfl pa2 pr2
  · exact words_at n0 3 _ _ xw3 w hg (by omega) hk rfl rfl pa3 pr3
  · exact words_at n0 4 _ _ xw4 w hg (by omega) hk rfl rfl pa4 pr4
  · exact words_at n0 5 _ _ xw5 w hg (by omega) hk rfl rfl pa5 pr5
end Go.Proofs.YtfafcpjmfopinaaGreatDoor
