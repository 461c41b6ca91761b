/- The law SpanParts answers true at every three rows of numbers: its walk. -/
import Derived.Test.YtlnfapkpehhafaaDoorPartsA
namespace Go.Proofs.YtlnfapkpehhafaaDoor
open Go.RowKit
attribute [local go_sem ↓] Go.wp_at_zero Go.wp_at_succ
set_option maxRecDepth 100000 in
set_option maxHeartbeats 1500000 in
theorem parts_main (b0 b1 b2 o0 o1 o2 n0 n1 n2 c0 c1 c2 : Nat) (x y g : Nat → Nat) (w : World) (hT : TabsIn w)
    (hn0 : 1 ≤ n0) (hn1 : n0 ≤ 12) (hn2 : n0 ≤ n1) (hn3 : n0 ≤ n2)
    (hx : ∀ j, j < n0 → w.cell? ⟨b0, o0 + j, none⟩ = some (.int .u16 (x j))) (hy : ∀ j, j < n1 → w.cell? ⟨b1, o1 + j, none⟩ = some (.int .u8 (y j))) (hg : ∀ j, j < n2 → w.cell? ⟨b2, o2 + j, none⟩ = some (.int .u8 (g j)))
    (hxb : ∀ j, x j ≤ 65535) (hyb : ∀ j, y j ≤ 255) (hgb : ∀ j, g j ≤ 255) :
    Calls Tryd.prog 7 #[.slice (some ⟨b0, o0, none⟩) n0 c0, .slice (some ⟨b1, o1, none⟩) n1 c1, .slice (some ⟨b2, o2, none⟩) n2 c2] w fun e w' => e = .returned (.bool true) ∧ Below w.heap.size w w' := by
  have e1 : decide ((n0 : Int) < 1) = false := by simp; omega
  have e2 : decide (12 < (n0 : Int)) = false := by simp; omega
  have e3 : decide (n1 < n0) = false := by simp; omega
  have e4 : decide (n2 < n0) = false := by simp; omega
  go_enter Tryd.func7, Tryd.ntmps7
  go_wp2_with fail
  refine (known_any _ hT).mono ?_
  rintro e w1 ⟨rfl, hb1⟩
  go_wp2_with fail
  have hA := parr_new w1
  generalize ((w1.alloc (.cells #[.string ⟨#[115]⟩, .string ⟨#[115, 101, 99]⟩, .string ⟨#[109]⟩, .string ⟨#[109, 105, 110]⟩, .string ⟨#[104]⟩, .string ⟨#[104, 114]⟩, .string ⟨#[100]⟩, .string ⟨#[119]⟩] 41)).alloc (.cells #[.int .i64 1, .int .i64 1, .int .i64 60, .int .i64 60, .int .i64 3600, .int .i64 3600, .int .i64 86400, .int .i64 604800] 42)).alloc (.cells #[.string ⟨#[]⟩, .string ⟨#[32]⟩, .string ⟨#[32, 32, 32]⟩] 43) = W2 at hA ⊢
  have lx := World.block_lt_of_cell? w _ (hx 0 (by omega))
  have ly := World.block_lt_of_cell? w _ (hy 0 (by omega))
  have lg := World.block_lt_of_cell? w _ (hg 0 (by omega))
  simp only at lx ly lg
  clear e1 e2 e3 e4
  have hb1s := hb1.size
  go_loopw [10, 11, 12] (fun ss wt ix wr => ∃ (i : Nat) (L : List Sp.Raw), ix = .int .i64 i ∧ i ≤ n0 ∧ ss = .string ⟨(Sp.rawTxt L).toArray⟩ ∧ wt = .int .i64 (Sp.sumR L) ∧ PArr w1 wr ∧ Hid (L.length = i ∧ (∀ z ∈ L, z.ok) ∧ (Sp.rawTxt L).length ≤ 20 * i ∧ 0 ≤ Sp.sumR L ∧ Sp.sumR L ≤ 39635568000 * i)) (fun _ _ ix _ => n0 - (intOf ix).toNat)
  case atStart => exact ⟨0, [], rfl, by omega, rfl, rfl, hA, rfl, by simp, by simp [Sp.rawTxt], by simp [Sp.sumR], by simp [Sp.sumR]⟩
  case round =>
    obtain ⟨i, L, rfl, hi, rfl, rfl, hA2, hh⟩ := hrel
    have hbw : Below w.heap.size w wr := hb1.trans (hA2.bl.mono hb1s)
    by_cases hlt : i < n0
    · have cx := (hbw.cell (p := ⟨b0, o0 + i, none⟩) lx).trans (hx i hlt)
      have cy := (hbw.cell (p := ⟨b1, o1 + i, none⟩) ly).trans (hy i (by omega))
      have cg := (hbw.cell (p := ⟨b2, o2 + i, none⟩) lg).trans (hg i (by omega))
      have bx := hxb i
      have b_y := hyb i
      have bg := hgb i
      have hS := hh.out.2.2.1
      have hw0 := hh.out.2.2.2.1
      have hw1 := hh.out.2.2.2.2
      have hi1 : (i : Int) < (n0 : Int) := by omega
      have hi2 : (i : Int) < (n1 : Int) := by omega
      have hi3 : (i : Int) < (n2 : Int) := by omega
      generalize x i = xi at cx bx
      generalize y i = yi at cy b_y
      generalize g i = gi at cg bg
      go_wp2_with fail
      have k1 := hA2.bk (gi % 3) (by omega)
      have k2 := hA2.bk (gi / 3 % 3) (by omega)
      have k3 := hA2.bk (gi / 9 % 3) (by omega)
      have k4 := hA2.nm (yi % 8) (by omega)
      have k5 := hA2.sc (yi % 8) (by omega)
      have hsz := hA2.sz
      generalize hB1 : List.replicate (Sp.pBl (gi % 3)) (32 : UInt8) = B1 at k1
      generalize hB2 : List.replicate (Sp.pBl (gi / 3 % 3)) (32 : UInt8) = B2 at k2
      generalize hB3 : List.replicate (Sp.pBl (gi / 9 % 3)) (32 : UInt8) = B3 at k3
      generalize hU : Sp.pName (yi % 8) = U at k4
      generalize hSC : Sp.pSec (yi % 8) = SC at k5
      have t1 : (gi : Int).tmod 3 = ((gi % 3 : Nat) : Int) := by rw [Int.tmod_eq_emod_of_nonneg (by omega)]; omega
      have t2 : (gi : Int).tdiv 3 = ((gi / 3 : Nat) : Int) := by rw [Int.tdiv_eq_ediv_of_nonneg (by omega)]; omega
      have t3 : (gi : Int).tdiv 9 = ((gi / 9 : Nat) : Int) := by rw [Int.tdiv_eq_ediv_of_nonneg (by omega)]; omega
      have t4 : ((gi / 3 : Nat) : Int).tmod 3 = ((gi / 3 % 3 : Nat) : Int) := by rw [Int.tmod_eq_emod_of_nonneg (by omega)]; omega
      have t5 : ((gi / 9 : Nat) : Int).tmod 3 = ((gi / 9 % 3 : Nat) : Int) := by rw [Int.tmod_eq_emod_of_nonneg (by omega)]; omega
      have v1 : (gi : Int) % 3 = ((gi % 3 : Nat) : Int) := by omega
      have v2 : (gi : Int) / 3 = ((gi / 3 : Nat) : Int) := by omega
      have v3 : (gi : Int) / 9 = ((gi / 9 : Nat) : Int) := by omega
      have v4 : ((gi / 3 : Nat) : Int) % 3 = ((gi / 3 % 3 : Nat) : Int) := by omega
      have v5 : ((gi / 9 : Nat) : Int) % 3 = ((gi / 9 % 3 : Nat) : Int) := by omega
      have v6 : (yi : Int) % 8 = ((yi % 8 : Nat) : Int) := by omega
      have m1 : gi % 3 < 3 := by omega
      have m2 : gi / 3 % 3 < 3 := by omega
      have m3 : gi / 9 % 3 < 3 := by omega
      have m4 : yi % 8 < 8 := by omega
      have m5 : gi / 3 ≤ 255 := by omega
      have m6 : gi / 9 ≤ 255 := by omega
      generalize gi / 3 % 3 = r2 at *
      generalize gi / 9 % 3 = r3 at *
      generalize gi / 3 = d3 at *
      generalize gi / 9 = d9 at *
      generalize gi % 3 = r1 at *
      generalize yi % 8 = r4 at *
      have m1' : (r1 : Int) < 3 := by omega
      have m2' : (r2 : Int) < 3 := by omega
      have m3' : (r3 : Int) < 3 := by omega
      have m4' : (r4 : Int) < 8 := by omega
      have m5' : (d3 : Int) ≤ 255 := by omega
      have m6' : (d9 : Int) ≤ 255 := by omega
      generalize hD : Lib.decDigits xi = D
      generalize hSS : Sp.rawTxt L = S at hS ⊢
      have HSS := hid hSS
      clear hSS
      have HB1 := hid hB1
      have HB2 := hid hB2
      have HB3 := hid hB3
      have HU := hid hU
      have HSC := hid hSC
      have HD := hid hD
      clear hB1 hB2 hB3 hU hSC hD
      have l0 : b0 < wr.heap.size := by have := hbw.size; omega
      have l1 : w1.heap.size < wr.heap.size := by omega
      have l2 : w1.heap.size + 1 + 1 < wr.heap.size := by omega
      have y0 : IntKind.i64.wrap (xi : Int) = (xi : Int) := i64w _ (by omega) (by omega)
      have y3 : IntKind.i64.wrap (d3 : Int) = (d3 : Int) := i64w _ (by omega) (by omega)
      have y9 : IntKind.i64.wrap (d9 : Int) = (d9 : Int) := i64w _ (by omega) (by omega)
      have lB1 : B1.length ≤ 3 := by rw [← HB1.out, List.length_replicate]; exact Sp.pBl_le _ m1
      have lB2 : B2.length ≤ 3 := by rw [← HB2.out, List.length_replicate]; exact Sp.pBl_le _ m2
      have lB3 : B3.length ≤ 3 := by rw [← HB3.out, List.length_replicate]; exact Sp.pBl_le _ m3
      have lU : U.length ≤ 3 := by rw [← HU.out]; exact (Sp.pUnit _ m4).2.2.2
      have lD : D.length ≤ 19 := by rw [← HD.out]; exact dec19 _ (by omega)
      have hS2 : S.length ≤ 240 := by omega
      have ad1 : ∀ W, (Op.stringOp .add ⟨S.toArray⟩ ⟨B1.toArray⟩).run Tryd.prog W = .ok (.string ⟨(S ++ B1).toArray⟩) W := fun W => run_string_add_lists W _ _ (by omega) (by omega)
      have ad2 : ∀ W, (Op.stringOp .add ⟨(S ++ B1).toArray⟩ ⟨D.toArray⟩).run Tryd.prog W = .ok (.string ⟨(S ++ (B1 ++ D)).toArray⟩) W := fun W => by
        rw [← List.append_assoc]; exact run_string_add_lists W _ _ (by rw [List.length_append]; omega) (by omega)
      have ad3 : ∀ W, (Op.stringOp .add ⟨(S ++ (B1 ++ D)).toArray⟩ ⟨B2.toArray⟩).run Tryd.prog W = .ok (.string ⟨(S ++ (B1 ++ (D ++ B2))).toArray⟩) W := fun W => by
        have := run_string_add_lists (P := Tryd.prog) W (S ++ (B1 ++ D)) B2 (by simp only [List.length_append]; omega) (by omega)
        simpa only [List.append_assoc] using this
      have ad4 : ∀ W, (Op.stringOp .add ⟨(S ++ (B1 ++ (D ++ B2))).toArray⟩ ⟨U.toArray⟩).run Tryd.prog W = .ok (.string ⟨(S ++ (B1 ++ (D ++ (B2 ++ U)))).toArray⟩) W := fun W => by
        have := run_string_add_lists (P := Tryd.prog) W (S ++ (B1 ++ (D ++ B2))) U (by simp only [List.length_append]; omega) (by omega)
        simpa only [List.append_assoc] using this
      have ad5 : ∀ W, (Op.stringOp .add ⟨(S ++ (B1 ++ (D ++ (B2 ++ U)))).toArray⟩ ⟨B3.toArray⟩).run Tryd.prog W = .ok (.string ⟨(S ++ (B1 ++ (D ++ (B2 ++ (U ++ B3))))).toArray⟩) W := fun W => by
        have := run_string_add_lists (P := Tryd.prog) W (S ++ (B1 ++ (D ++ (B2 ++ U)))) B3 (by simp only [List.length_append]; omega) (by omega)
        simpa only [List.append_assoc] using this
      have hdg : Hid (∀ W, Calls Tryd.prog 20 #[.int .i64 xi] W fun e w' => e = .returned (.string ⟨D.toArray⟩) ∧ Below W.heap.size W w') := fun W => by
        have := digits_any xi W (by omega)
        rwa [HD.out] at this
      clear hT hx hy hg hxb hyb hgb hA
      go_region_held3 (fun w' => w'.cell? ⟨b0, o0 + i, none⟩ = some (.int .u16 xi) ∧ w'.cell? ⟨w1.heap.size + 1 + 1, r1, none⟩ = some (.string ⟨B1.toArray⟩) ∧ w'.cell? ⟨w1.heap.size + 1 + 1, r2, none⟩ = some (.string ⟨B2.toArray⟩) ∧ w'.cell? ⟨w1.heap.size + 1 + 1, r3, none⟩ = some (.string ⟨B3.toArray⟩) ∧ w'.cell? ⟨w1.heap.size, r4, none⟩ = some (.string ⟨U.toArray⟩))
        (first
          | assumption
          | (go_split_ands; refine ⟨?_, ?_, ?_, ?_, ?_⟩ <;> assumption)
          | (go_split_ands; refine ⟨(hb2.cell (p := ⟨b0, o0 + i, none⟩) l0).trans cx, (hb2.cell (p := ⟨w1.heap.size + 1 + 1, r1, none⟩) l2).trans k1, (hb2.cell (p := ⟨w1.heap.size + 1 + 1, r2, none⟩) l2).trans k2, (hb2.cell (p := ⟨w1.heap.size + 1 + 1, r3, none⟩) l2).trans k3, (hb2.cell (p := ⟨w1.heap.size, r4, none⟩) l1).trans k4⟩)
          | (simp only [World.cell?_drew]; assumption))
        (first | (go_at_call 20; refine (hdg.out _).mono ?_; rintro e w2 ⟨rfl, hb2⟩))
      go_split_ands
      clear ad1 ad2 ad3 ad4 ad5
      have hsc := Sp.pUnit r4 m4
      rw [HSC.out] at hsc
      have hP0 : 0 ≤ (xi : Int) * SC := Int.mul_nonneg (by omega) (by omega)
      have hP1 : (xi : Int) * SC ≤ 39635568000 := by
        have : (xi : Int) * SC ≤ 65535 * 604800 := Int.mul_le_mul (by omega) (by omega) (by omega) (by omega)
        omega
      have z1 : IntKind.i64.wrap ((xi : Int) * SC) = (xi : Int) * SC := i64w _ hP0 (by omega)
      have z2 : IntKind.i64.wrap (Sp.sumR L + (xi : Int) * SC) = Sp.sumR L + (xi : Int) * SC := i64w _ (by omega) (by omega)
      have k5' : w2.cell? ⟨w1.heap.size + 1, r4, none⟩ = some (.int .i64 SC) := by rw [hb2.cell (by simp; omega)]; simpa using k5
      have hA3 : PArr w1 w2 := hA2.below ((Below.refl _ wr).drew.trans hb2)
      clear k1 k2 k3 k4 k5 t1 t2 t3 t4 t5 v1 v2 v3 v4 v5 m1' m2' m3' m5 m5' m6 m6' y3 y9 hdg cy cg lB1 lB2 lB3 lU lD hS2
      go_wp2_with fail
      go_region_held3 (fun w' => w'.cell? ⟨b0, o0 + i, none⟩ = some (.int .u16 xi) ∧ w'.cell? ⟨w1.heap.size + 1, r4, none⟩ = some (.int .i64 SC))
        (first | assumption | (go_split_ands; refine ⟨?_, ?_⟩ <;> assumption) | go_keep)
        (fail)
      go_split_ands
      go_wp2_with fail
      exact ⟨⟨i + 1, L ++ [rawOf xi r1 r2 r3 r4], by go_num, by omega, by rw [Sp.raw_snoc, HSS.out]; simp only [Sp.Raw.one, rawOf, HB1.out, HB2.out, HB3.out, HU.out, HD.out], by rw [Sp.sumR_snoc, (rawOf_ok xi r1 r2 r3 r4 bx m1 m2 m3 m4).2.2, show (rawOf xi r1 r2 r3 r4).k = SC from HSC.out], hA3.below (Below.refl _ _).drew, raw_step L i xi r1 r2 r3 r4 bx m1 m2 m3 m4 hh.out⟩, by simp [intOf]; omega⟩
    · have hlen : Hid (L ≠ []) := by
        intro e
        have := hh.out.1
        rw [e] at this
        simp at this
        omega
      have hpa : Hid (Sp.parse (Sp.rawTxt L) = some (Sp.sumR L)) := Sp.parse_raw L hlen.out hh.out.2.1 (by have := hh.out.2.2.2.2; unfold Sp.top; omega)
      have hT2 := hT.below hbw
      have hll : (Sp.rawTxt L).length ≤ maxLen := by have := hh.out.2.2.1; unfold maxLen; omega
      have hcall : Hid (Calls Tryd.prog 16 #[.string ⟨(Sp.rawTxt L).toArray⟩] wr fun e w' => e = .returned (.tuple #[.int .i64 (Sp.sumR L), .int .i64 0]) ∧ Below wr.heap.size wr w') := by
        have h := parse_l (Sp.rawTxt L) wr hll hT2.rd (Nat.lt_of_lt_of_le (show 1 < 8 by decide) hT2.sz)
        rwa [show Sp.parseV (Sp.rawTxt L) = Sp.sumR L by unfold Sp.parseV; rw [hpa.out]; rfl, show Sp.parseE (Sp.rawTxt L) = 0 by unfold Sp.parseE; rw [hpa.out]; rfl] at h
      clear hlen hpa hll hh
      go_wp2_with fail
      refine hcall.out.mono ?_
      rintro e w3 ⟨rfl, hb3⟩
      go_wp2_with fail
      go_ret
      exact ⟨by simp, hbw.trans (hb3.mono hbw.size)⟩
end Go.Proofs.YtlnfapkpehhafaaDoor
