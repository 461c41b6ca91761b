/- What comes next on one day of the week; CalendarWeekly. -/
import Derived.Test.YtfjbonhlokbhpaaDoorZG
import Derived.Test.YtfjbonhlokbhpaaDoorZI
namespace Go.Proofs.YtfjbonhlokbhpaaDoor
open Go.RowKit
def xW (k : Int) : Cal.C7 := ⟨[(false, k, k, 0)], [(true, 0, 0, 0)], [(true, 0, 0, 0)], [(true, 0, 0, 0)], [(false, 0, 0, 0)], [(false, 0, 0, 0)], [(false, 0, 0, 0)]⟩
theorem mt_xW (k x : Int) : Cal.mt (xW k) x = true ↔ (x / 86400 + 3) % 7 = k ∧ x % 86400 / 3600 = 0 ∧ x % 86400 / 60 % 60 = 0 ∧ x % 60 = 0 := by
  have e : Cal.mt (xW k) x = ((decide (k ≤ (x / 86400 + 3) % 7) && decide ((x / 86400 + 3) % 7 ≤ k)) && (decide (x % 86400 / 3600 = 0) && (decide (x % 86400 / 60 % 60 = 0) && decide (x % 60 = 0)))) := by
    have z : ∀ y : Int, (decide (0 ≤ y) && decide (y ≤ 0)) = decide (y = 0) := fun y => by rw [Bool.eq_iff_iff]; simp; omega
    simp [Cal.mt, xW, Cal.inL, Cal.inP, Cal.onW, Civ.wd, z]
    rfl
  rw [e]
  simp only [Bool.and_eq_true, decide_eq_true_eq]
  omega
/-- The next midnight on day k. -/
def nW (k t : Int) : Int := (t / 86400 + 1 + (k - (t / 86400 + 4)) % 7) * 86400
theorem nx_xW (k t : Int) (hk : 0 ≤ k) (hk6 : k ≤ 6) (h0 : 0 ≤ t) (h1 : t ≤ 7000000000) : Cal.nx (xW k) t = some (nW k t) := by
  rw [Cal.nx_some]
  have hb : t < nW k t ∧ nW k t ≤ t + 604800 := by unfold nW; omega
  refine ⟨⟨by omega, by omega, (mt_xW _ _).2 ?_⟩, fun x h2 h3 => ?_⟩
  · unfold nW; omega
  · cases hm : Cal.mt (xW k) x with
    | false => rfl
    | true =>
      have := (mt_xW _ _).1 hm
      unfold nW at h3
      omega
theorem nW_facts (k t : Int) (hk : 0 ≤ k) (hk6 : k ≤ 6) (h0 : 0 ≤ t) (h1 : t ≤ 7000000000) : t < nW k t ∧ nW k t ≤ t + 604800 ∧ nW k t % 86400 = 0 ∧ (nW k t / 86400 + 3) % 7 = k ∧ 0 ≤ nW k t ∧ nW k t ≤ 8000000000 := by
  unfold nW; omega
set_option maxRecDepth 100000 in
set_option maxHeartbeats 2000000 in
theorem weekly_at (n0 k : Nat) (t : Int) (m : ByteArray) (w : World) (hg : GlP w) (h0 : n0 < 256) (hk : n0 % 7 = k) (ht0 : -9223372036854775808 ≤ t) (ht1 : t ≤ 9223372036854775807)
    (hm : ∀ h : k < 7, ([Value.string ⟨#[77, 111, 110]⟩, .string ⟨#[84, 117, 101]⟩, .string ⟨#[87, 101, 100]⟩, .string ⟨#[84, 104, 117]⟩, .string ⟨#[70, 114, 105]⟩, .string ⟨#[83, 97, 116]⟩, .string ⟨#[83, 117, 110]⟩] : List Value)[k]'h = .string m)
    (hP : Hid (∀ w, GlP w → Calls Tryd.prog 15 #[.string m] w (ParP w (xW k)))) (hI : isB (xW k) = true) :
    Calls Tryd.prog 6 #[.int .u8 n0, .int .i64 t] w fun e w' => e = .returned (.bool true) ∧ Below w.heap.size w w' := by
  have hkn := known_any w hg
  have hki : (n0 : Int) % 7 = (k : Int) := by omega
  have hk7 : k < 7 := by omega
  have hm' := hm hk7
  clear hm
  go_enter Tryd.func6, Tryd.ntmps6
  go_wp2_with fail
  refine hkn.mono ?_
  rintro e w1 ⟨rfl, hb1⟩
  clear hkn
  have hg1 := hg.below hb1
  have hB1 : Below w1.heap.size w1 (w1.alloc (.cells #[Value.string ⟨#[77, 111, 110]⟩, .string ⟨#[84, 117, 101]⟩, .string ⟨#[87, 101, 100]⟩, .string ⟨#[84, 104, 117]⟩, .string ⟨#[70, 114, 105]⟩, .string ⟨#[83, 97, 116]⟩, .string ⟨#[83, 117, 110]⟩] 50)) := (Below.refl _ _).alloc (Nat.le_refl _) _
  have hPa := hP.out _ (hg1.below hB1)
  go_wp2_with fail
  refine hPa.mono ?_
  rintro e w2 ⟨S, rfl, hb2, hp⟩
  clear hPa hm' hki
  have hb12 : Below w1.heap.size w1 w2 := hB1.trans (hb2.mono hB1.size)
  have hBb : Below w2.heap.size w2 (w2.alloc (.cells #[slv (S 0), slv (S 1), slv (S 2), slv (S 3), slv (S 4), slv (S 5), slv (S 6)] 24)) := (Below.refl _ _).alloc (Nat.le_refl _) _
  have hg2 := (hg1.below hb12).below hBb
  have hbB : Below w.heap.size w (w2.alloc (.cells #[slv (S 0), slv (S 1), slv (S 2), slv (S 3), slv (S 4), slv (S 5), slv (S 6)] 24)) := (hb1.trans (hb12.mono hb1.size)).trans (hBb.mono (Nat.le_trans hb1.size hb12.size))
  obtain ⟨p0, cap0, e0, -, -⟩ := hp.p0
  have e0' : slv (S 0) = .slice p0 1 cap0 := e0
  obtain ⟨U, hU⟩ : ∃ U, w2.alloc (.cells #[slv (S 0), slv (S 1), slv (S 2), slv (S 3), slv (S 4), slv (S 5), slv (S 6)] 24) = U := ⟨_, rfl⟩
  rw [hU] at hbB hg2 hBb
  have c0 : U.cell? ⟨w2.heap.size, 0, none⟩ = some (.slice p0 1 cap0) := by rw [← hU, ← e0']; exact cell_at rfl rfl
  have c1 : U.cell? ⟨w2.heap.size, 1, none⟩ = some (slv (S 1)) := by rw [← hU]; exact cell_at rfl rfl
  have c2 : U.cell? ⟨w2.heap.size, 2, none⟩ = some (slv (S 2)) := by rw [← hU]; exact cell_at rfl rfl
  have c3 : U.cell? ⟨w2.heap.size, 3, none⟩ = some (slv (S 3)) := by rw [← hU]; exact cell_at rfl rfl
  have c4 : U.cell? ⟨w2.heap.size, 4, none⟩ = some (slv (S 4)) := by rw [← hU]; exact cell_at rfl rfl
  have c5 : U.cell? ⟨w2.heap.size, 5, none⟩ = some (slv (S 5)) := by rw [← hU]; exact cell_at rfl rfl
  have c6 : U.cell? ⟨w2.heap.size, 6, none⟩ = some (slv (S 6)) := by rw [← hU]; exact cell_at rfl rfl
  have hN := next_any S (xW k) t U (hp.below hBb) hg2.gl ht1
  unfold aggC at hN
  rw [e0'] at hN
  have hNH := hidI2 hN
  have hbBH := hidI2 hbB
  clear hN hbB e0 e0' hp hb2 hB1 hBb hg2 hb12
  by_cases ha : t < 0
  · go_wp2_with (rw [hU])
    go_ret
    exact ⟨rfl, hbBH.out⟩
  · have hab : decide (t < 0) = false := by simp; omega
    by_cases hb : 7000000000 < t
    · go_wp2_with (rw [hU])
      go_ret
      exact ⟨rfl, hbBH.out⟩
    · have hbb : decide (7000000000 < t) = false := by simp; omega
      obtain ⟨f1, f2, f3, f4, f5, f6⟩ := nW_facts k t (by omega) (by omega) (by omega) (by omega)
      have hX := nx_xW k t (by omega) (by omega) (by omega) (by omega)
      have hN := hNH.out
      rw [hI, hX] at hN
      simp only [if_true, Option.getD_some, Option.isSome_some, Bool.and_true] at hN
      obtain ⟨N, hNe⟩ : ∃ N, nW k t = N := ⟨_, rfl⟩
      rw [hNe] at hN f1 f2 f3 f4 f5 f6
      have g1 : N.tmod 86400 = 0 := by rw [Int.tmod_eq_emod_of_nonneg f5]; exact f3
      obtain ⟨q, hq⟩ : ∃ q, N / 86400 = q := ⟨_, rfl⟩
      have g2 : N.tdiv 86400 = q := by rw [Int.tdiv_eq_ediv_of_nonneg f5]; exact hq
      have g3 : (q + 3).tmod 7 = (k : Int) := by rw [Int.tmod_eq_emod_of_nonneg (by omega), ← hq]; exact f4
      have g4 : IntKind.i64.wrap (t + 604800) = t + 604800 := by rw [IntKind.wrap_i64]; omega
      have g5 : IntKind.i64.wrap (q + 3) = q + 3 := by rw [IntKind.wrap_i64]; omega
      have g6 : IntKind.i64.wrap q = q := by rw [IntKind.wrap_i64]; omega
      clear hNe hX f3 f4 hq hNH
      go_wp2_with (rw [hU])
      refine hN.mono ?_
      rintro e w3 ⟨rfl, hb3⟩
      have hz := hbBH.out.trans (hb3.mono hbBH.out.size)
      clear hN hb3 hbBH
      go_wp2_with fail
      go_ret
      exact ⟨rfl, hz⟩
end Go.Proofs.YtfjbonhlokbhpaaDoor
