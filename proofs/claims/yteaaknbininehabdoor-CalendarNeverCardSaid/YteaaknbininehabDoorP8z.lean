/- The contract of package calendar's parseClock. -/
import Derived.Test.YteaaknbininehabDoorP8c1
import Derived.Test.YteaaknbininehabDoorP8c2
import Derived.Test.YteaaknbininehabDoorP8c3
import Derived.Test.YteaaknbininehabDoorP8d1
import Derived.Test.YteaaknbininehabDoorP8d2
import Derived.Test.YteaaknbininehabDoorP8d3
namespace Go.Proofs.YteaaknbininehabDoor
open Go.RowKit
def fill (l : List ByteArray) : List ByteArray := if l.length = 2 then l ++ [⟨#[48, 48]⟩] else l
def pC (s : ByteArray) : Option (List Part × List Part × List Part) := p3L (fill (splitT s (str1 58) 3)) 0 23 0 59 0 59
theorem told3 {t0 t1 t2 : ByteArray} {b o : Nat} {w : World} {e : Ending} {w' : World} (o1 : (pNs t0 0 23).isSome = true) (o2 : (pNs t1 0 59).isSome = true)
    (h : e = .returned (.bool (pNs t2 0 59).isSome) ∧ St w b o (some ((pNs t0 0 23).getD [])) (some ((pNs t1 0 59).getD [])) (some ((pNs t2 0 59).getD [])) w') :
    e = .returned (.bool (p3L [t0, t1, t2] 0 23 0 59 0 59).isSome) ∧ Told (p3L [t0, t1, t2] 0 23 0 59 0 59) b o w w' := by
  obtain ⟨x0, e0⟩ := Option.isSome_iff_exists.1 o1
  obtain ⟨x1, e1⟩ := Option.isSome_iff_exists.1 o2
  have hN : p3L [t0, t1, t2] 0 23 0 59 0 59 = (pNs t2 0 59).map fun p => ((pNs t0 0 23).getD [], (pNs t1 0 59).getD [], p) := by
    show ((pNs t0 0 23).bind fun r => (pNs t1 0 59).bind fun q => (pNs t2 0 59).map fun p => (r, q, p)) = _
    rw [e0, e1]; rfl
  rw [hN]
  refine ⟨by rw [h.1, Option.isSome_map], _, _, _, h.2, fun x y z e => ?_⟩
  cases hz : pNs t2 0 59 with
  | none => rw [hz] at e; cases e
  | some p => rw [hz] at e; cases e; exact ⟨rfl, rfl, rfl⟩
theorem told1 {t0 t1 t2 : ByteArray} {b o : Nat} {w : World} {e : Ending} {w' : World} (h0 : (pNs t0 0 23).isSome = false ∨ (pNs t1 0 59).isSome = false)
    (h : e = .returned (.bool false) ∧ ∃ c1 c2 c3, St w b o c1 c2 c3 w') :
    e = .returned (.bool (p3L [t0, t1, t2] 0 23 0 59 0 59).isSome) ∧ Told (p3L [t0, t1, t2] 0 23 0 59 0 59) b o w w' := by
  have hN : p3L [t0, t1, t2] 0 23 0 59 0 59 = none := by
    show ((pNs t0 0 23).bind fun r => (pNs t1 0 59).bind fun q => (pNs t2 0 59).map fun p => (r, q, p)) = _
    rcases h0 with h | h
    · rw [none_of h]; rfl
    · rw [none_of h]; cases pNs t0 0 23 <;> rfl
  rw [hN]
  obtain ⟨he, c1, c2, c3, hC⟩ := h
  exact ⟨he, c1, c2, c3, hC, fun x y z e => by cases e⟩
set_option maxRecDepth 100000 in
set_option maxHeartbeats 1000000 in
theorem parseClock_any (s : ByteArray) (b : Nat) (w : World) (hg : GlP w) (hs : s.size ≤ 100000) (hcb : Cb w b) :
    Calls Tryd.prog 30 #[.pointer (some ⟨b, 0, none⟩), .string s] w fun e w' => e = .returned (.bool (pC s).isSome) ∧ Told (pC s) b 4 w w' := by
  have hSp := split_own s (str1 58) 3 w hg hs (by decide) (by decide)
  have hle := fun x hx => Nat.le_trans (splitB_le (str1 58) (min (3 + 1) (s.size + 1) - 1) s x hx) hs
  change ∀ x ∈ splitT s (str1 58) 3, x.size ≤ 100000 at hle
  unfold pC
  obtain ⟨L, hL⟩ : ∃ L, splitT s (str1 58) 3 = L := ⟨_, rfl⟩
  rw [hL] at hSp hle ⊢
  clear hL
  by_cases h3 : L.length = 3
  · obtain ⟨t0, t1, t2, rfl⟩ : ∃ t0 t1 t2, L = [t0, t1, t2] := by
      match L, h3 with
      | [a, b, c], _ => exact ⟨a, b, c, rfl⟩
    have z0 := hle t0 (by simp)
    have z1 := hle t1 (by simp)
    have z2 := hle t2 (by simp)
    rw [show fill [t0, t1, t2] = [t0, t1, t2] from rfl]
    cases o1 : (pNs t0 0 23).isSome
    · exact (clock31 s t0 t1 t2 b w hg hcb z0 hSp o1).mono fun e w' h => told1 (.inl o1) h
    · cases o2 : (pNs t1 0 59).isSome
      · exact (clock32 s t0 t1 t2 b w hg hcb z0 z1 hSp o1 o2).mono fun e w' h => told1 (.inr o2) h
      · exact (clock33 s t0 t1 t2 b w hg hcb z0 z1 z2 hSp o1 o2).mono fun e w' h => told3 o1 o2 h
  by_cases h2 : L.length = 2
  · obtain ⟨t0, t1, rfl⟩ : ∃ t0 t1, L = [t0, t1] := by
      match L, h2 with
      | [a, b], _ => exact ⟨a, b, rfl⟩
    have z0 := hle t0 (by simp)
    have z1 := hle t1 (by simp)
    rw [show fill [t0, t1] = [t0, t1, ⟨#[48, 48]⟩] from rfl]
    cases o1 : (pNs t0 0 23).isSome
    · exact (clock21 s t0 t1 b w hg hcb z0 hSp o1).mono fun e w' h => told1 (.inl o1) h
    · cases o2 : (pNs t1 0 59).isSome
      · exact (clock22 s t0 t1 b w hg hcb z0 z1 hSp o1 o2).mono fun e w' h => told1 (.inr o2) h
      · exact (clock23 s t0 t1 b w hg hcb z0 z1 hSp o1 o2).mono fun e w' h => told3 o1 o2 h
  · have hF : Hid (p3L (fill L) 0 23 0 59 0 59 = none) := by
      show _ = _
      unfold fill
      rw [if_neg h2]
      match L, h3 with
      | [], _ => rfl
      | [_], _ => rfl
      | [_, _], _ => rfl
      | [_, _, _], h => exact absurd rfl h
      | _ :: _ :: _ :: _ :: _, _ => rfl
    obtain ⟨_, hcs, _⟩ := hcb
    obtain ⟨u1, k1⟩ := hcs 4 (by omega)
    have bl : b < w.heap.size := cell_lt k1
    obtain ⟨n, hn⟩ : ∃ n, L.length = n := ⟨_, rfl⟩
    rw [hn] at hSp h2 h3
    clear hle hcs k1 hn
    go_enter Tryd.func30, Tryd.ntmps30
    go_wp2_with fail
    refine hSp.mono ?_
    rintro e w1 ⟨cap, rfl, hown, hbb⟩
    have h3' : ¬ ((n : Int) = 3) := by omega
    have h2' : ¬ ((n : Int) = 2) := by omega
    clear h3 h2 hown
    go_wp2_with fail
    go_ret
    exact ⟨by rw [hF.out]; rfl, none, none, none, St.start 4 hbb bl, fun x y z e => by rw [hF.out] at e; cases e⟩
end Go.Proofs.YteaaknbininehabDoor
