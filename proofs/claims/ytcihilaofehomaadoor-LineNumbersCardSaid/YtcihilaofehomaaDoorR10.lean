/- The contract of slices.Values's iterator over lines, with the law's closure. -/
import Derived.Test.YtcihilaofehomaaDoorR9
namespace Go.Proofs.YtcihilaofehomaaDoor
open Go.RowKit Lin
/-- How many lines the closure takes. -/
def tk (n : Nat) (st : Int) : Nat := if 1 ≤ st ∧ st ≤ n then st.toNat else n
theorem take_snoc {l : List Ln} {k : Nat} {x : Ln} (h : l[k]? = some x) : l.take (k + 1) = l.take k ++ [x] := by rw [List.take_add_one, h]; rfl
set_option maxRecDepth 100000 in
set_option maxHeartbeats 4000000 in
theorem values_any (pa ps pm pv g cap cm : Nat) (a am : Option Addr) (st : Int) (l : List Ln) (W0 : World) (hpa : pa < W0.heap.size) (hps : ps < W0.heap.size) (hpm : pm < W0.heap.size) (n1 : ps ≠ pa) (n2 : pm ≠ pa) (n4 : g ≠ pa) (ca : Cl pa (.slice none 0 0) W0) (cs : W0.cell? ⟨ps, 0, none⟩ = some (.int .i64 st)) (cm' : W0.cell? ⟨pm, 0, none⟩ = some (.slice am l.length cm)) (cv : W0.cell? ⟨pv, 0, none⟩ = some (.slice a l.length cap)) (ha : 0 < l.length → a = some ⟨g, 0, none⟩) (hat : LnAt W0 g l) (hl : l.length ≤ 4500) :
    Calls Tryd.prog 48 #[.func (.func 14) #[] #[.pointer (some ⟨pa, 0, none⟩), .pointer (some ⟨ps, 0, none⟩), .pointer (some ⟨pm, 0, none⟩)], .pointer (some ⟨pv, 0, none⟩)] W0 fun e W' => e = .returned (.tuple #[]) ∧ ∃ v, Cl pa v W' ∧ W'.ownsRow W0.heap.size 34 4 v (l.take (tk l.length st)).length (lnsC (l.take (tk l.length st))) ∧ Mv (Tc W0.heap.size pa) W0 W' := by
  obtain ⟨B, hB⟩ : ∃ B, W0.heap.size = B := ⟨_, rfl⟩
  obtain ⟨n, hn⟩ : ∃ n, l.length = n := ⟨_, rfl⟩
  rw [hB] at hpa hps hpm ⊢
  rw [hn] at cm' cv ha hl ⊢
  have hN : Hid (l.length = n) := hn
  have hBH : Hid (W0.heap.size = B) := hB
  have hatH : Hid (LnAt W0 g l) := hat
  have csH : Hid (W0.cell? ⟨ps, 0, none⟩ = some (.int .i64 st)) := cs
  have cmH : Hid (W0.cell? ⟨pm, 0, none⟩ = some (.slice am n cm)) := cm'
  have caH : Hid (Cl pa (.slice none 0 0) W0) := ca
  clear hn hB hat cs cm' ca
  go_enter Tryd.func48, Tryd.ntmps48
  go_wp2_with fail
  go_loopw [7] (fun i wr => ∃ (k : Nat) (v : Value), k ≤ n ∧ i = .int .i64 k ∧ Hid (¬ (1 ≤ st ∧ st ≤ k)) ∧ Cl pa v wr ∧ Hid (wr.ownsRow B 34 4 v k (lnsC (l.take k))) ∧ Mv (Tc B pa) W0 wr) (fun i _ => n - (intOf i).toNat)
  case atStart => exact ⟨0, _, by omega, rfl, by show ¬ _; omega, caH.out, by rw [List.take_zero]; exact World.ownsRow_nil _ _ _ _, Mv.refl _ _⟩
  case round =>
    obtain ⟨k, v, hk, rfl, hst, ca, ho, hm⟩ := hrel
    by_cases hlt : k < n
    · obtain ⟨x, hx⟩ : ∃ x, l[k]? = some x := ⟨_, List.getElem?_eq_getElem (by rw [hN.out]; exact hlt)⟩
      obtain rfl := ha (by omega)
      have hts := take_snoc hx
      obtain ⟨p0, p1, p2, p3⟩ := hatH.out k x hx
      have hgl : g < B := by rw [← hBH.out]; exact cell_lt p0
      have ng : ¬ Tc B pa g := by rintro (h | h); exact n4 h; omega
      have nps : ¬ Tc B pa ps := by rintro (h | h); exact n1 h; omega
      have npm : ¬ Tc B pa pm := by rintro (h | h); exact n2 h; omega
      have q0 := hm.cell ng p0
      have q1 := hm.cell ng p1
      have q2 := hm.cell ng p2
      have q3 := hm.cell ng p3
      clear p0 p1 p2 p3
      obtain ⟨kd, ky, vl, nm⟩ := x
      obtain ⟨K, rfl, _, hKe⟩ := letters ky
      obtain ⟨V, rfl, _, hVe⟩ := letters vl
      simp only [hKe, hVe] at q0 q1 q2 q3
      have hmU : ∀ F, Mv F wr (wr.alloc (.cells #[.int .i64 kd, .string K, .string V, .int .i64 nm] 34)) := fun F => Mv.alloc _ _ _
      have hlen : (l.take k).length = k := by rw [List.length_take, hN.out]; omega
      have hcl := reads1_any B pa ps pm kd nm n cm st am K V v (l.take k) (wr.alloc (.cells #[.int .i64 kd, .string K, .string V, .int .i64 nm] 34)) (by have := hm.size; have := hBH.out; simp; omega) hpa hps hpm n1 n2 (ca.mv (hmU (fun _ => False)) (fun h => h))
        ((hmU (fun _ => False)).cell (fun h => h) (hm.cell nps csH.out)) ((hmU (fun _ => False)).cell (fun h => h) (hm.cell npm cmH.out)) (by rw [hlen]; exact own_mv ho.out (hmU (fun _ => False)) (fun _ _ h => h)) (by omega) (by omega)
      rw [hlen, ← hts] at hcl
      have hclH : Hid (Calls Tryd.prog 14 #[.agg #[.int .i64 kd, .string K, .string V, .int .i64 nm], .pointer (some ⟨pa, 0, none⟩), .pointer (some ⟨ps, 0, none⟩), .pointer (some ⟨pm, 0, none⟩)] (wr.alloc (.cells #[.int .i64 kd, .string K, .string V, .int .i64 nm] 34)) fun e W' => e = .returned (.bool (decide (((k + 1 : Nat) : Int) ≠ st))) ∧ ∃ v', Cl pa v' W' ∧ W'.ownsRow B 34 4 v' (k + 1) (lnsC (l.take (k + 1))) ∧ Mv (Tc B pa) (wr.alloc (.cells #[.int .i64 kd, .string K, .string V, .int .i64 nm] 34)) W') := hcl
      clear hcl hlen hts hx hKe hVe
      have hkI : (k : Int) < (n : Int) := by omega
      by_cases hs : ((k + 1 : Nat) : Int) = st
      · have hd : decide (((k + 1 : Nat) : Int) ≠ st) = false := by simp; omega
        rw [hd] at hclH
        have htk : Hid (tk n st = k + 1) := by show _ = _; unfold tk; rw [if_pos (by omega)]; omega
        clear hs hd
        go_wp2_with (go_at_call 14; refine hclH.out.mono ?_; rintro e w' ⟨rfl, v', hca, hown, hmv⟩)
        refine bodyPost_ret (v := .tuple #[]) (by simp [results, Tryd.results48, go_sem]) rfl ?_
        refine ⟨rfl, v', hca, ?_, (hm.trans' (hmU _)).trans' hmv⟩
        rw [htk.out, List.length_take, hN.out, Nat.min_eq_left (by omega)]
        exact hown
      · have hd : decide (((k + 1 : Nat) : Int) ≠ st) = true := by simp; omega
        rw [hd] at hclH
        have hst2 : Hid (¬ (1 ≤ st ∧ st ≤ ((k + 1 : Nat) : Int))) := by show ¬ _; have := hst.out; omega
        clear hs hd
        go_wp2_with (go_at_call 14; refine hclH.out.mono ?_; rintro e w' ⟨rfl, v', hca, hown, hmv⟩)
        exact ⟨⟨k + 1, v', by omega, by go_num, hst2, hca, hown, (hm.trans' (hmU _)).trans' hmv⟩, by simp [intOf]; omega⟩
    · obtain rfl : k = n := by omega
      have htk : Hid (tk k st = k) := by show _ = _; unfold tk; rw [if_neg hst.out]
      go_wp2_with fail
      refine bodyPost_end (v := .tuple #[]) (by simp [results, Tryd.results48, go_sem]) rfl ?_
      refine ⟨rfl, v, ca, ?_, hm⟩
      rw [htk.out, List.length_take, hN.out, Nat.min_self]
      exact ho.out
end Go.Proofs.YtcihilaofehomaaDoor
