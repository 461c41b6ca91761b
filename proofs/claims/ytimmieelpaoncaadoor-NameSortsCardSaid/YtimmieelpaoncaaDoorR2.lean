/- The contract of the reference's parted. -/
import Derived.Test.YtimmieelpaoncaaDoorR1
namespace Go.Proofs.YtimmieelpaoncaaDoor
open Go.RowKit Nam
theorem below_drewN {w w' : World} {m : Nat} (h : Below m w w') (n : Nat) : Below m w (w'.drewN n) := ⟨h.os, h.tape, h.output, h.size, h.block⟩
def endV : Array Value := #[.string ⟨#[46, 115, 101, 114, 118, 105, 99, 101]⟩, .string ⟨#[46, 115, 111, 99, 107, 101, 116]⟩, .string ⟨#[46, 116, 105, 109, 101, 114]⟩, .string ⟨#[46, 112, 97, 116, 104]⟩, .string ⟨#[46, 109, 111, 117, 110, 116]⟩, .string ⟨#[46, 116, 97, 114, 103, 101, 116]⟩]
def EndsIn (b : Nat) (w : World) : Prop := ∀ (j : Nat) (e : L), ends[j]? = some e → w.cell? ⟨b, j, none⟩ = some (.string ⟨e.toArray⟩)
theorem EndsIn.keep {b : Nat} {w w' : World} (h : EndsIn b w) (hb : Below (b + 1) w w') : EndsIn b w' := fun j e he => (hb.cell (p := ⟨b, j, none⟩) (Nat.lt_succ_self _)).trans (h j e he)
theorem cell_at {W : World} {cs : Array Value} {t : TypeId} {n j : Nat} {v : Value} (hn : W.heap.size = n) (h : cs[j]? = some v) : (W.alloc (.cells cs t)).cell? ⟨n, j, none⟩ = some v := by
  subst hn
  have := heap_alloc_new W (.cells cs t)
  unfold World.cell?
  rw [this]
  exact h
theorem EndsIn.fresh (w : World) (t : TypeId) : EndsIn w.heap.size (w.alloc (.cells endV t)) := fun j e he => by
  refine cell_at rfl ?_
  match j, he with
  | 0, he => cases he; rfl
  | 1, he => cases he; rfl
  | 2, he => cases he; rfl
  | 3, he => cases he; rfl
  | 4, he => cases he; rfl
  | 5, he => cases he; rfl
  | n + 6, he => simp [ends] at he
theorem endings_any (w : World) :
    Calls Tryd.prog 56 #[] w fun e w' => e = .returned (.agg endV) ∧ Below w.heap.size w w' := by
  go_enter Tryd.func56, Tryd.ntmps56
  go_wp2
  exact bodyPost_ret (v := .agg endV) (by simp [results, Tryd.results56, go_sem, endV]) rfl ⟨rfl, (Below.refl _ _).alloc (Nat.le_refl _) _⟩
set_option maxHeartbeats 2000000 in
theorem parted_any (s : ByteArray) (w : World) (hs : s.size ≤ 1000000) :
    Calls Tryd.prog 36 #[.string s] w fun e w' => e = .returned (.tuple #[.string ⟨(pt s.data.toList).1.toArray⟩, .int .i64 (pt s.data.toList).2]) ∧ Below w.heap.size w w' := by
  go_enter Tryd.func36, Tryd.ntmps36
  go_wp2_with fail
  refine (endings_any w).mono ?_
  rintro e w1 ⟨he, hb1⟩
  unfold endV at he
  subst he
  have hz1 := hb1.size
  go_wp2_with fail
  go_loopw [5] (fun i wr => ∃ k : Nat, k ≤ 6 ∧ i = .int .i64 k ∧ Hid (fnd s.data.toList 0 ends = fnd s.data.toList k (ends.drop k)) ∧ Below w.heap.size w wr ∧ Hid (EndsIn w1.heap.size wr) ∧ w1.heap.size < wr.heap.size) (fun i _ => 6 - (intOf i).toNat)
  case atStart => exact ⟨0, by omega, rfl, rfl, hb1.alloc hz1 _, EndsIn.fresh w1 _, by simp⟩
  case round =>
    obtain ⟨k, hk, rfl, hf, hb, hE, hwz⟩ := hrel
    by_cases hlt : k < 6
    · obtain ⟨e, he⟩ : ∃ e, ends[k]? = some e := ⟨_, List.getElem?_eq_getElem (by simpa [ends] using hlt)⟩
      have c0 := hE.out k e he
      obtain ⟨l5, l8⟩ := ends_len k e he
      have hst : Hid (fnd s.data.toList k (ends.drop k) = if Lib.hasSuffix s.data.toList e then some (s.data.toList.take (s.data.toList.length - e.length), k) else fnd s.data.toList (k + 1) (ends.drop (k + 1))) := fnd_step _ _ _ he
      obtain ⟨E, hEe⟩ : ∃ E : ByteArray, (⟨e.toArray⟩ : ByteArray) = E := ⟨_, rfl⟩
      rw [hEe] at c0
      have he' : Hid (e = E.data.toList) := by rw [← hEe]; rfl
      have hEs : E.size ≤ 8 := by rw [← hEe]; exact l8
      have hEl : Hid (e.length = E.size) := by rw [← hEe]; rfl
      have hraw := Lib.hasSuffix_raw s E
      rw [← he'.out] at hraw
      have hI : (k : Int) < 6 := by omega
      clear hEe he l5 l8
      by_cases hz : E.size ≤ s.size
      · obtain ⟨m, hm⟩ : ∃ m, s.size = m + E.size := ⟨s.size - E.size, by omega⟩
        have hm' : (s.size : Int) - (E.size : Int) = (m : Int) := by omega
        rw [show s.size - E.size = m by omega] at hraw
        have hms : m ≤ s.size := by omega
        have hmH : Hid (s.size = m + E.size) := hm
        clear hm
        cases hx : ((s.extract m s.size).toList == E.toList)
        · have hn : Hid (fnd s.data.toList k (ends.drop k) = fnd s.data.toList (k + 1) (ends.drop (k + 1))) := by
            show _ = _
            rw [hst.out, if_neg (by rw [← hraw, hx]; simp)]
          clear hraw
          go_wp2_with fail
          go_quiet (fail)
          go_wp2_with fail
          exact ⟨⟨k + 1, by omega, by go_num, hf.out.trans hn.out, below_drewN hb _, hE, hwz⟩, by simp [intOf]; omega⟩
        · have hn : Hid (pt s.data.toList = (s.data.toList.take m, (k : Int) + 1)) := by
            show _ = _
            unfold pt
            rw [hf.out, hst.out, if_pos (by rw [← hraw, hx]; simp [hz])]
            show (List.take (s.data.toList.length - e.length) s.data.toList, (k : Int) + 1) = _
            rw [size_list, hEl.out, hmH.out, Nat.add_sub_cancel]
          clear hraw
          go_wp2_with fail
          go_quiet (fail)
          go_wp2_with fail
          go_ret2
          refine ⟨?_, below_drewN hb _⟩
          rw [hn.out, Lib.extract_eq]
          simp
      · have hd : decide (E.size ≤ s.size) = false := by simpa using hz
        rw [hd, Bool.false_and] at hraw
        have hn : Hid (fnd s.data.toList k (ends.drop k) = fnd s.data.toList (k + 1) (ends.drop (k + 1))) := by
          show _ = _
          rw [hst.out, if_neg (by rw [← hraw]; simp)]
        have hd' : decide ((0 : Int) ≤ (s.size : Int) - (E.size : Int)) = false := by simp; omega
        clear hraw hd
        go_wp2_with fail
        go_quiet (fail)
        go_wp2_with fail
        exact ⟨⟨k + 1, by omega, by go_num, hf.out.trans hn.out, below_drewN hb _, hE, hwz⟩, by simp [intOf]; omega⟩
    · obtain rfl : k = 6 := by omega
      have hn : Hid (pt s.data.toList = ([], 0)) := by show _ = _; unfold pt; rw [hf.out]; rfl
      go_wp2_with fail
      go_ret2
      exact ⟨by rw [hn.out]; rfl, hb⟩
end Go.Proofs.YtimmieelpaoncaaDoor
